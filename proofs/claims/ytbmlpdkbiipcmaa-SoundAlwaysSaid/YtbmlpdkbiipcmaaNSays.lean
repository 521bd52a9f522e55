/- Contract of osierlaw3.Says over a treap that lies in an arena. -/
import Derived.Test.YtbmlpdkbiipcmaaNtG
namespace Go.Proofs.Ytbmlpdkbiipcmaa
open Go.RowKit
set_option linter.all false

/-- A node that lies in memory, later. -/
theorem eight_keep {w W W' : World} {c b o o1 : Nat} {k v x y s h : Int} (hb : Below W.heap.size W W') (hh : W.cell? ⟨c, 0, none⟩ = some (.int .i64 k) ∧ W.cell? ⟨c, 1, none⟩ = some (.int .i64 v) ∧ W.cell? ⟨c, 2, none⟩ = some (.int .i64 x) ∧ W.cell? ⟨c, 3, none⟩ = some (.int .i64 y) ∧ W.cell? ⟨c, 4, none⟩ = some (.int .i64 s) ∧ W.cell? ⟨c, 5, none⟩ = some (.int .i64 h) ∧ W.cell? ⟨b, o, none⟩ = some (.int .i64 k) ∧ W.cell? ⟨b, o1, none⟩ = some (.int .i64 v) ∧ Below w.heap.size w W) : W'.cell? ⟨c, 0, none⟩ = some (.int .i64 k) ∧ W'.cell? ⟨c, 1, none⟩ = some (.int .i64 v) ∧ W'.cell? ⟨c, 2, none⟩ = some (.int .i64 x) ∧ W'.cell? ⟨c, 3, none⟩ = some (.int .i64 y) ∧ W'.cell? ⟨c, 4, none⟩ = some (.int .i64 s) ∧ W'.cell? ⟨c, 5, none⟩ = some (.int .i64 h) ∧ W'.cell? ⟨b, o, none⟩ = some (.int .i64 k) ∧ W'.cell? ⟨b, o1, none⟩ = some (.int .i64 v) ∧ Below w.heap.size w W' := by
  obtain ⟨h0, h1, h2, h3, h4, h5, h6, h7, h8⟩ := hh
  have go : ∀ {q : Addr} {v : Value}, W.cell? q = some v → W'.cell? q = some v := fun hc => (hb.cell (World.block_lt_of_cell? W _ hc)).trans hc
  exact ⟨go h0, go h1, go h2, go h3, go h4, go h5, go h6, go h7, h8.trans (hb.mono h8.size)⟩
theorem eight_below {w W : World} {c b o o1 : Nat} {k v x y s h : Int} (hh : W.cell? ⟨c, 0, none⟩ = some (.int .i64 k) ∧ W.cell? ⟨c, 1, none⟩ = some (.int .i64 v) ∧ W.cell? ⟨c, 2, none⟩ = some (.int .i64 x) ∧ W.cell? ⟨c, 3, none⟩ = some (.int .i64 y) ∧ W.cell? ⟨c, 4, none⟩ = some (.int .i64 s) ∧ W.cell? ⟨c, 5, none⟩ = some (.int .i64 h) ∧ W.cell? ⟨b, o, none⟩ = some (.int .i64 k) ∧ W.cell? ⟨b, o1, none⟩ = some (.int .i64 v) ∧ Below w.heap.size w W) : Below w.heap.size w W := hh.2.2.2.2.2.2.2.2
theorem eight_new {w W1 : World} {b o o1 : Nat} {k v x y s h : Int} (hb : Below w.heap.size w W1) (g0 : w.cell? ⟨b, o, none⟩ = some (.int .i64 k)) (g1 : w.cell? ⟨b, o1, none⟩ = some (.int .i64 v)) :
    ∀ W, W = (W1.alloc (.cells #[.int .i64 k, .int .i64 v, .int .i64 x, .int .i64 y, .int .i64 s, .int .i64 h] 41)).drew → W.cell? ⟨W1.heap.size, 0, none⟩ = some (.int .i64 k) ∧ W.cell? ⟨W1.heap.size, 1, none⟩ = some (.int .i64 v) ∧ W.cell? ⟨W1.heap.size, 2, none⟩ = some (.int .i64 x) ∧ W.cell? ⟨W1.heap.size, 3, none⟩ = some (.int .i64 y) ∧ W.cell? ⟨W1.heap.size, 4, none⟩ = some (.int .i64 s) ∧ W.cell? ⟨W1.heap.size, 5, none⟩ = some (.int .i64 h) ∧ W.cell? ⟨b, o, none⟩ = some (.int .i64 k) ∧ W.cell? ⟨b, o1, none⟩ = some (.int .i64 v) ∧ Below w.heap.size w W := by
  rintro W rfl
  have h0 := cell_alloc ((hb.cell (p := ⟨b, o, none⟩) (World.block_lt_of_cell? w _ g0)).trans g0) (.cells #[.int .i64 k, .int .i64 v, .int .i64 x, .int .i64 y, .int .i64 s, .int .i64 h] 41)
  have h1 := cell_alloc ((hb.cell (p := ⟨b, o1, none⟩) (World.block_lt_of_cell? w _ g1)).trans g1) (.cells #[.int .i64 k, .int .i64 v, .int .i64 x, .int .i64 y, .int .i64 s, .int .i64 h] 41)
  exact ⟨by simp, by simp, by simp, by simp, by simp, by simp, h0, h1, (hb.alloc hb.size _).drew⟩

set_option maxRecDepth 100000 in
set_option maxHeartbeats 6400000 in
theorem says_nil (a : Option Addr) (cap : Nat) (w : World) (p : Nat) (F : Nat → Prop) (room st : Int) (L : List It) (hP : Prs w a cap []) (hA : Arena w p F room st L) :
    Calls Try.prog 29 #[.pointer (some ⟨p, 0, none⟩), .int .i64 0, .slice a 0 cap] w fun e w' => e = .returned (.int .i64 0) ∧ Below w.heap.size w w' := by
  have ct := top_any a cap [] w hP
  rw [topL_nil, List.length_nil] at ct
  have cg := fun W (hb : Below w.heap.size w W) => get_no 0 W p F room st L (hA.below hb) (by rw [kindL_zero L 0 (by omega)]; omega)
  clear hP hA
  go_enter Try.func29, Try.ntmps29
  go_wp2_with (first
    | (go_at_call 16; ((with_reducible refine ct.mono ?_); clear ct; rintro e w2 ⟨rfl, hb2⟩))
    | (go_at_call 17; ((with_reducible refine (cg _ hb2).mono ?_); clear cg; rintro e w3 ⟨rfl, hb3⟩)))
  go_ret
  exact ⟨rfl, (hb2.trans (hb3.mono hb2.size)).alloc (Nat.le_trans hb2.size hb3.size) _⟩

set_option maxRecDepth 100000 in
set_option maxHeartbeats 6400000 in
/-- One round of Says, its calls by contracts. -/
theorem says_node (b o cap len i : Nat) (aD : Option Addr) (t k v x y hgt : Int) (w : World) (p : Nat)
    (hil : i < len) (hcap : len ≤ cap) (hcapm : cap ≤ maxLen)
    (hD : (cap = i + 1 ∧ aD = some ⟨b, o, none⟩) ∨ (¬ cap = i + 1 ∧ aD = some ⟨b, o + (i + 1) * 2, none⟩))
    (g0 : w.cell? ⟨b, o + i * 2, none⟩ = some (.int .i64 k)) (g1 : w.cell? ⟨b, o + i * 2 + 1, none⟩ = some (.int .i64 v))
    (ct : Calls Try.prog 16 #[.slice (some ⟨b, o, none⟩) len cap] w fun e w' => e = .returned (.int .i64 (i : Int)) ∧ Below w.heap.size w w')
    (cg : ∀ W, Below w.heap.size w W → Calls Try.prog 17 #[.pointer (some ⟨p, 0, none⟩), .int .i64 t] W fun e w' => e = .returned (.tuple #[.agg #[.int .i64 k, .int .i64 v, .int .i64 x, .int .i64 y, .int .i64 (len : Int), .int .i64 hgt], .bool true]) ∧ Below W.heap.size W w')
    (ch : ∀ W, Below w.heap.size w W → Calls Try.prog 48 #[.slice (some ⟨b, o, none⟩) len cap] W fun e w' => e = .returned (.int .i64 hgt) ∧ Below W.heap.size W w')
    (cs1 : ∀ W, Below w.heap.size w W → Calls Try.prog 29 #[.pointer (some ⟨p, 0, none⟩), .int .i64 x, .slice (some ⟨b, o, none⟩) i cap] W fun e w' => e = .returned (.int .i64 0) ∧ Below W.heap.size W w')
    (cs2 : ∀ W, Below w.heap.size w W → Calls Try.prog 29 #[.pointer (some ⟨p, 0, none⟩), .int .i64 y, .slice aD (len - (i + 1)) (cap - (i + 1))] W fun e w' => e = .returned (.int .i64 0) ∧ Below W.heap.size W w') :
    Calls Try.prog 29 #[.pointer (some ⟨p, 0, none⟩), .int .i64 t, .slice (some ⟨b, o, none⟩) len cap] w fun e w' => e = .returned (.int .i64 0) ∧ Below w.heap.size w w' := by
  unfold maxLen at hcapm
  have hmn : ¬ (i : Int) < 0 := by omega
  have hm0 : (0 : Int) ≤ (i : Int) := by omega
  have hii : (i : Int) ≤ (len : Int) := by omega
  have hii2 : (i : Int) + 1 ≤ (len : Int) := by omega
  have hii3 : (i : Int) < (len : Int) := by omega
  have hw : IntKind.i64.wrap ((i : Int) + 1) = (i : Int) + 1 := by rw [IntKind.wrap_i64]; omega
  have h01 : (0 : Int) ≤ (i : Int) + 1 := by omega
  have hic : (i : Int) ≤ (cap : Int) := by omega
  have hic1 : (i : Int) + 1 ≤ (cap : Int) := by omega
  have hlc : (len : Int) ≤ (cap : Int) := by omega
  have hcap0 : ¬ cap = 0 := by omega
  have G := Lib.hid (And.intro g0 g1)
  clear g0 g1
  rcases hD with ⟨hcc, rfl⟩ | ⟨hcc, rfl⟩
  · rw [show cap - (i + 1) = 0 by omega, show len - (i + 1) = 0 by omega] at cs2
    have hlen0 : len - cap = 0 := by omega
    have hcc2 : i + 1 = cap := hcc.symm
    clear hcc
    go_enter Try.func29, Try.ntmps29
    go_wp2_with (first
      | (go_at_call 16; ((with_reducible refine ct.mono ?_); clear ct; rintro e w2 ⟨rfl, hb2⟩))
      | (go_at_call 17; ((with_reducible refine (cg _ hb2).mono ?_); clear cg; rintro e w3 ⟨rfl, hb3⟩; have b3 := hb2.trans (hb3.mono hb2.size); clear hb2 hb3)))
    go_region_held3 (fun W => W.cell? ⟨w3.heap.size, 0, none⟩ = some (.int .i64 k) ∧ W.cell? ⟨w3.heap.size, 1, none⟩ = some (.int .i64 v) ∧ W.cell? ⟨w3.heap.size, 2, none⟩ = some (.int .i64 x) ∧ W.cell? ⟨w3.heap.size, 3, none⟩ = some (.int .i64 y) ∧ W.cell? ⟨w3.heap.size, 4, none⟩ = some (.int .i64 (len : Int)) ∧ W.cell? ⟨w3.heap.size, 5, none⟩ = some (.int .i64 hgt) ∧ W.cell? ⟨b, o + i * 2, none⟩ = some (.int .i64 k) ∧ W.cell? ⟨b, o + i * 2 + 1, none⟩ = some (.int .i64 v) ∧ Below w.heap.size w W)
      (first | exact eight_keep hb (by assumption) | exact eight_new b3 G.out.1 G.out.2 _ rfl | go_keep)
      (first
        | (go_at_call 48; ((with_reducible refine (ch _ (eight_below (by assumption))).mono ?_); rintro e w4 ⟨rfl, hb⟩)))
    go_wp2_with (fail)
    go_region_held3 (fun W => W.cell? ⟨w3.heap.size, 0, none⟩ = some (.int .i64 k) ∧ W.cell? ⟨w3.heap.size, 1, none⟩ = some (.int .i64 v) ∧ W.cell? ⟨w3.heap.size, 2, none⟩ = some (.int .i64 x) ∧ W.cell? ⟨w3.heap.size, 3, none⟩ = some (.int .i64 y) ∧ W.cell? ⟨w3.heap.size, 4, none⟩ = some (.int .i64 (len : Int)) ∧ W.cell? ⟨w3.heap.size, 5, none⟩ = some (.int .i64 hgt) ∧ W.cell? ⟨b, o + i * 2, none⟩ = some (.int .i64 k) ∧ W.cell? ⟨b, o + i * 2 + 1, none⟩ = some (.int .i64 v) ∧ Below w.heap.size w W)
      (first | exact eight_keep hb (by assumption) | exact eight_keep ((Below.refl _ _).drew) (by assumption) | go_keep)
      (first
        | (go_at_call 29; ((with_reducible refine (cs1 _ (eight_below (by assumption))).mono ?_); rintro e w4 ⟨rfl, hb⟩))
        | (go_at_call 29; ((with_reducible refine (cs2 _ (eight_below (by assumption))).mono ?_); rintro e w4 ⟨rfl, hb⟩)))
    go_wp2_with (fail)
    go_ret
    exact ⟨rfl, eight_below (by assumption)⟩
  · go_enter Try.func29, Try.ntmps29
    go_wp2_with (first
      | (go_at_call 16; ((with_reducible refine ct.mono ?_); clear ct; rintro e w2 ⟨rfl, hb2⟩))
      | (go_at_call 17; ((with_reducible refine (cg _ hb2).mono ?_); clear cg; rintro e w3 ⟨rfl, hb3⟩; have b3 := hb2.trans (hb3.mono hb2.size); clear hb2 hb3)))
    go_region_held3 (fun W => W.cell? ⟨w3.heap.size, 0, none⟩ = some (.int .i64 k) ∧ W.cell? ⟨w3.heap.size, 1, none⟩ = some (.int .i64 v) ∧ W.cell? ⟨w3.heap.size, 2, none⟩ = some (.int .i64 x) ∧ W.cell? ⟨w3.heap.size, 3, none⟩ = some (.int .i64 y) ∧ W.cell? ⟨w3.heap.size, 4, none⟩ = some (.int .i64 (len : Int)) ∧ W.cell? ⟨w3.heap.size, 5, none⟩ = some (.int .i64 hgt) ∧ W.cell? ⟨b, o + i * 2, none⟩ = some (.int .i64 k) ∧ W.cell? ⟨b, o + i * 2 + 1, none⟩ = some (.int .i64 v) ∧ Below w.heap.size w W)
      (first | exact eight_keep hb (by assumption) | exact eight_new b3 G.out.1 G.out.2 _ rfl | go_keep)
      (first
        | (go_at_call 48; ((with_reducible refine (ch _ (eight_below (by assumption))).mono ?_); rintro e w4 ⟨rfl, hb⟩)))
    go_wp2_with (fail)
    go_region_held3 (fun W => W.cell? ⟨w3.heap.size, 0, none⟩ = some (.int .i64 k) ∧ W.cell? ⟨w3.heap.size, 1, none⟩ = some (.int .i64 v) ∧ W.cell? ⟨w3.heap.size, 2, none⟩ = some (.int .i64 x) ∧ W.cell? ⟨w3.heap.size, 3, none⟩ = some (.int .i64 y) ∧ W.cell? ⟨w3.heap.size, 4, none⟩ = some (.int .i64 (len : Int)) ∧ W.cell? ⟨w3.heap.size, 5, none⟩ = some (.int .i64 hgt) ∧ W.cell? ⟨b, o + i * 2, none⟩ = some (.int .i64 k) ∧ W.cell? ⟨b, o + i * 2 + 1, none⟩ = some (.int .i64 v) ∧ Below w.heap.size w W)
      (first | exact eight_keep hb (by assumption) | exact eight_keep ((Below.refl _ _).drew) (by assumption) | go_keep)
      (first
        | (go_at_call 29; ((with_reducible refine (cs1 _ (eight_below (by assumption))).mono ?_); rintro e w4 ⟨rfl, hb⟩))
        | (go_at_call 29; ((with_reducible refine (cs2 _ (eight_below (by assumption))).mono ?_); rintro e w4 ⟨rfl, hb⟩)))
    go_wp2_with (fail)
    go_ret
    exact ⟨rfl, eight_below (by assumption)⟩

theorem says_any (p : Nat) (F : Nat → Prop) (room st : Int) (L : List It) (t : Int) (l : List Pr) (hT : Tree L t l) :
    ∀ (a : Option Addr) (cap : Nat) (w : World), Prs w a cap l → Arena w p F room st L → l.length ≤ 1000 →
      Calls Try.prog 29 #[.pointer (some ⟨p, 0, none⟩), .int .i64 t, .slice a l.length cap] w fun e w' => e = .returned (.int .i64 0) ∧ Below w.heap.size w w' := by
  induction hT with
  | nil =>
    intro a cap w hP hA _
    exact says_nil a cap w p F room st L hP hA
  | node t x y l i q h1 h2 h3 h4 h5 h6 h7 t1 t2 ih1 ih2 =>
    intro a cap w hP hA hl
    have hil : i < l.length := (List.getElem?_eq_some_iff.1 h2).1
    obtain ⟨b, o, e, g0, g1⟩ := hP.2.2 i q h2
    subst e
    obtain ⟨e1, P1⟩ := hP.take i hil
    obtain ⟨aD, e2, P2, hD⟩ := hP.drop i hil
    have hc := hP.1
    have hcm := hP.2.1
    obtain ⟨n0, n1, n2, n3, n4, n5, n6⟩ := node_says h3
    have ct := top_any _ cap l w hP
    rw [h1] at ct
    have c1 := fun W (hb : Below w.heap.size w W) => ih1 _ cap W (P1.below hb) (hA.below hb) (by rw [e1]; exact Nat.le_trans (Nat.le_of_lt hil) hl)
    have c2 := fun W (hb : Below w.heap.size w W) => ih2 _ (cap - (i + 1)) W (P2.below hb) (hA.below hb) (by rw [e2]; exact Nat.le_trans (Nat.sub_le _ _) hl)
    rw [e1] at c1
    rw [e2] at c2
    refine says_node b o cap l.length i aD t q.1 q.2 x y (hi l) w p hil hc hcm hD g0 g1 ct (fun W hb => ?_) (fun W hb => high_any _ _ cap l W (Nat.le_refl _) (hP.below hb) hl) c1 c2
    have cg := get_yes t W p F room st L (hA.below hb) n0
    rw [n1, n2, n3, n4, n5, n6] at cg
    exact cg
end Go.Proofs.Ytbmlpdkbiipcmaa
