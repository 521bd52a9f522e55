/- osierlaw3.Laid over an arena some of whose blocks are older than the slice. -/
import Derived.Test.YtmbeaefgakfbnaaNTree
namespace Go.Proofs.Ytmbeaefgakfbnaa
open Go.RowKit
set_option linter.all false

/-- An arena whose blocks are these of S, and newer ones than w0; nothing else older has turned. -/
structure HeldS (S : Nat → Prop) (w0 w : World) (p : Nat) (room st : Int) (l : List It) : Prop where
  a : Arena w p (fun k => S k ∨ w0.heap.size ≤ k) room st l
  b : Only S w0 w

section
variable {S : Nat → Prop} {w0 w w' : World} {p : Nat} {room st : Int} {l : List It}
theorem Only.thenBelow (h : Only S w0 w) (hb : Below w.heap.size w w') : Only S w0 w' := h.trans (Only.ofBelow (S := fun _ => False) hb) (fun _ hf => hf.elim)
theorem HeldS.below (h : HeldS S w0 w p room st l) (hb : Below w.heap.size w w') : HeldS S w0 w' p room st l := ⟨h.a.below hb, h.b.thenBelow hb⟩
theorem HeldS.only {st' : Int} {l' : List It} (h : HeldS S w0 w p room st l) (ha : Arena w' p (Plus (fun k => S k ∨ w0.heap.size ≤ k) w w') room st' l') (ho : Only (fun k => S k ∨ w0.heap.size ≤ k) w w') : HeldS S w0 w' p room st' l' :=
  ⟨ha.mono (fun k hk hlt => by
    rcases hk with hk | hk
    · exact hk
    · exact .inr (Nat.le_trans h.b.size hk.1)), h.b.trans ho (fun i hi hlt => by
    rcases hi with hi | hi
    · exact hi
    · omega)⟩
theorem HeldS.oldS (h : HeldS S w0 w p room st l) {b o : Nat} {v : Value} (hc : w0.cell? ⟨b, o, none⟩ = some v) (hS : ¬ S b) : w.cell? ⟨b, o, none⟩ = some v := h.b.cell hc hS
theorem prs_onlyS {a : Option Addr} {cap : Nat} {l : List Pr} (h : Prs w0 a cap l) (o : Only S w0 w) (hS : ∀ b o, a = some ⟨b, o, none⟩ → ¬ S b) : Prs w a cap l :=
  ⟨h.1, h.2.1, fun n q hq => by
    obtain ⟨b, o', rfl, h0, h1⟩ := h.2.2 n q hq
    exact ⟨b, o', rfl, o.cell h0 (hS b o' rfl), o.cell h1 (hS b o' rfl)⟩⟩
theorem nmake_heldS (h : HeldS S w0 w p room st l) (k v lt rt sl hl sr hr n s hh : Int) (l' : List It) (h1 : Hung l lt sl hl) (h2 : Hung l rt sr hr) (hroom : (l.length : Int) < room)
    (b1 : 0 ≤ sl ∧ sl ≤ 4611686018427387900) (b2 : 0 ≤ sr ∧ sr ≤ 4611686018427387900) (b3 : 0 ≤ hl ∧ hl ≤ 4611686018427387900) (b4 : 0 ≤ hr ∧ hr ≤ 4611686018427387900)
    (hn : n = l.length + 1) (hs : s = sl + sr + 1) (hhh : hh = max hl hr + 1) (hl' : l' = l ++ [(1, [k, v, lt, rt, s, hh])]) :
    Calls Try.prog 23 #[.pointer (some ⟨p, 0, none⟩), .agg #[.int .i64 k, .int .i64 v], .int .i64 lt, .int .i64 rt] w fun e w' => e = .returned (.tuple #[.int .i64 n, .int .i64 0]) ∧ HeldS S w0 w' p room st l' := by
  have es : oneM sl sr = s := by rw [oneM_small b1.1 (by omega) (by omega)]; omega
  have eh : oneM (max hl hr) 0 = hh := by rw [oneM_high (by omega) (by omega)]; omega
  subst hn; subst hl'
  refine (nmake_ok k v h.a h1 h2 hroom).mono fun e w' ⟨he, ha, ho⟩ => ?_
  rw [es, eh] at ha
  exact ⟨by rw [he]; simp, h.only ha ho⟩
end

/-! ### Laid -/

/-- What Laid tells. -/
def LaidS (S : Nat → Prop) (w1 : World) (p : Nat) (room st : Int) (L : List It) (l : List Pr) (e : Ending) (w' : World) : Prop :=
  ∃ t L', e = .returned (.tuple #[.int .i64 t, .bool true]) ∧ HeldS S w1 w' p room st (L ++ L') ∧ L'.length = l.length ∧ Tree (L ++ L') t l ∧ Good (L ++ L')

set_option maxRecDepth 100000 in
set_option maxHeartbeats 6400000 in
theorem laidS_any (S : Nat → Prop) (w1 : World) (p : Nat) (room st : Int) (N : Nat) : ∀ (a : Option Addr) (cap : Nat) (l : List Pr) (w : World) (L : List It), l.length ≤ N → Prs w1 a cap l → (∀ b o, a = some ⟨b, o, none⟩ → ¬ S b) → HeldS S w1 w p room st L → Good L → ((L.length + l.length : Nat) : Int) ≤ room → l.length ≤ 1000 →
    Calls Try.prog 9 #[.pointer (some ⟨p, 0, none⟩), .slice a l.length cap] w (LaidS S w1 p room st L l) := by
  have neg : ∀ (a : Option Addr) (cap : Nat) (l : List Pr) (w : World) (L : List It), Prs w1 a cap l → (∀ b o, a = some ⟨b, o, none⟩ → ¬ S b) → HeldS S w1 w p room st L → Good L → topL l < 0 →
      Calls Try.prog 9 #[.pointer (some ⟨p, 0, none⟩), .slice a l.length cap] w (LaidS S w1 p room st L l) := by
    intro a cap l w L hP hS hH hG ht
    obtain rfl := topL_pos l ht
    have ct := top_any a cap [] w (prs_onlyS hP hH.b hS)
    rw [topL_nil, List.length_nil] at ct
    rw [List.length_nil]
    have HH := Lib.hid hH
    clear hH hP ht
    go_enter Try.func9, Try.ntmps9
    go_wp2_with (go_at_call 22; ((with_reducible refine ct.mono ?_); clear ct; rintro e w2 ⟨rfl, hb⟩))
    go_ret2
    exact ⟨0, [], rfl, by rw [List.append_nil]; exact HH.out.below hb, rfl, .nil, by rw [List.append_nil]; exact hG⟩
  induction N with
  | zero =>
    intro a cap l w L hN hP hS hH hG hr hl
    exact neg a cap l w L hP hS hH hG (by have := topL_lt l; omega)
  | succ N ih =>
    intro a cap l w L hN hP hS hH hG hr hl
    by_cases ht : topL l < 0
    · exact neg a cap l w L hP hS hH hG ht
    · have hB := topL_lt l
      obtain ⟨i, hi'⟩ : ∃ i : Nat, topL l = i := ⟨(topL l).toNat, by omega⟩
      have ct := top_any a cap l w (prs_onlyS hP hH.b hS)
      rw [hi'] at ct
      have hil : i < l.length := by omega
      obtain ⟨b, o, rfl⟩ := hP.some i hil
      obtain ⟨e1, P1⟩ := hP.take i hil
      obtain ⟨aD, e2, P2, hD⟩ := hP.drop i hil
      have hSb : ¬ S b := hS b o rfl
      have hSD : ∀ b' o', aD = some ⟨b', o', none⟩ → ¬ S b' := by
        intro b' o' e
        rcases hD with ⟨_, hD⟩ | ⟨_, hD⟩ <;> (rw [hD] at e; cases e; exact hSb)
      have c1 := fun W (hW : HeldS S w1 W p room st L) => ih _ _ (l.take i) W L (by omega) P1 hS hW hG (by omega) (by omega)
      have c2 := fun W M (hW : HeldS S w1 W p room st M) (hg : Good M) (hM : M.length = L.length + i) => ih _ _ (l.drop (i + 1)) W M (by omega) P2 hSD hW hg (by omega) (by omega)
      obtain ⟨q, hq⟩ : ∃ q, l[i]? = some q := ⟨_, List.getElem?_eq_getElem hil⟩
      obtain ⟨b', o', e', hc0, hc1⟩ := hP.2.2 i q hq
      cases e'
      obtain ⟨k, v⟩ := q
      dsimp only at hc0 hc1
      have HQ := Lib.hid hq
      have HT := Lib.hid hi'
      have HG := Lib.hid hG
      have HE1 := Lib.hid e1
      have HE2 := Lib.hid e2
      have cfin : ∀ W (M : List It) (x y : Int) (L1 L2 : List It), HeldS S w1 W p room st (L ++ L1 ++ L2) → L1.length = i → L2.length = l.length - (i + 1) → Tree (L ++ L1) x (l.take i) → Tree (L ++ L1 ++ L2) y (l.drop (i + 1)) → Good (L ++ L1 ++ L2) →
          Calls Try.prog 23 #[.pointer (some ⟨p, 0, none⟩), .agg #[.int .i64 k, .int .i64 v], .int .i64 x, .int .i64 y] W fun e w' =>
            ∃ t L', e = .returned (.tuple #[.int .i64 t, .int .i64 0]) ∧ HeldS S w1 w' p room st (L ++ L') ∧ L'.length = l.length ∧ Tree (L ++ L') t l ∧ Good (L ++ L') := by
        intro W M x y L1 L2 hW n1 n2 t1 t2 hg
        have t1' := t1.app L2
        have hl1 := hi_le _ (l.take i) (Nat.le_refl _)
        have hl2 := hi_le _ (l.drop (i + 1)) (Nat.le_refl _)
        obtain ⟨g1, x0, x1⟩ := t1'.hung (by omega)
        obtain ⟨g2, y0, y1⟩ := t2.hung (by omega)
        have hh := hi_at l i HT.out
        have elen : (L ++ L1 ++ L2).length = L.length + i + (l.length - (i + 1)) := by rw [List.length_append, List.length_append, n1, n2]
        refine (nmake_heldS hW k v x y _ _ _ _ ((L ++ L1 ++ L2).length + 1) (l.length : Int) (hi l : Int) _ g1 g2 (by omega) ⟨by omega, by omega⟩ ⟨by omega, by omega⟩ ⟨by omega, by omega⟩ ⟨by omega, by omega⟩ rfl (by omega) (by rw [hh]; omega) rfl).mono ?_
        rintro e w' ⟨rfl, hH'⟩
        have eapp : L ++ L1 ++ L2 ++ [(1, [k, v, x, y, (l.length : Int), (hi l : Int)])] = L ++ (L1 ++ L2 ++ [(1, [k, v, x, y, (l.length : Int), (hi l : Int)])]) := by simp
        refine ⟨_, L1 ++ L2 ++ [(1, [k, v, x, y, (l.length : Int), (hi l : Int)])], rfl, ?_, ?_, ?_, ?_⟩
        · rw [← eapp]; exact hH'
        · rw [List.length_append, List.length_append, n1, n2]; simp; omega
        · rw [← eapp]
          exact .node _ x y l i (k, v) HT.out HQ.out (itemAt_new _ _ _ rfl) (by omega) (by omega) x0 y0 (t1'.app _) (t2.app _)
        · rw [← eapp]
          exact hg.snoc k v x y _ _ ⟨x0, x1⟩ ⟨y0, y1⟩ (by rw [g1.size, g2.size]; omega) (by rw [g1.high, g2.high, hh]; omega) ⟨by omega, by omega, by omega, by omega⟩
      clear hB hi' ht
      rw [e1] at c1
      rw [e2] at c2
      have hcap := hP.1
      have hcapm := hP.2.1
      unfold maxLen at hcapm
      have hmn : ¬ (i : Int) < 0 := by omega
      have hm0 : (0 : Int) ≤ (i : Int) := by omega
      have hii : (i : Int) ≤ (l.length : Int) := by omega
      have hii2 : (i : Int) + 1 ≤ (l.length : Int) := by omega
      have hii3 : (i : Int) < (l.length : Int) := by omega
      have hw : wrap64 ((i : Int) + 1) = (i : Int) + 1 := by unfold wrap64; omega
      have h01 : (0 : Int) ≤ (i : Int) + 1 := by omega
      have hic : (i : Int) ≤ (cap : Int) := by omega
      have hic1 : (i : Int) + 1 ≤ (cap : Int) := by omega
      have hlc : (l.length : Int) ≤ (cap : Int) := by omega
      have hcap0 : ¬ cap = 0 := by omega
      have HH := Lib.hid hH
      have hw0 := hP
      clear hP P1 P2 ih e1 e2 hq hH hG neg hw0
      rcases hD with ⟨rfl, rfl⟩ | ⟨hcc, rfl⟩
      · have hlen0 : l.length - (i + 1) = 0 := by omega
        rw [Nat.sub_self, hlen0] at c2
        go_enter Try.func9, Try.ntmps9
        go_wp2_with (first
          | (go_at_call 22; ((with_reducible refine ct.mono ?_); clear ct; rintro e w2 ⟨rfl, hb⟩; have h2 := HH.out.below hb; clear hb))
          | (go_at_call 9; ((with_reducible refine (c1 _ h2).mono ?_); clear c1; rintro e w3 ⟨x, L1, rfl, h3, n1, t1, g1⟩; have T1 := Lib.hid t1; clear t1 h2))
          | (go_at_call 9; ((with_reducible refine (c2 _ _ h3 g1 (by rw [List.length_append, n1, HE1.out])).mono ?_); clear c2; rintro e w4 ⟨y, L2, rfl, h4, n2, t2, g2⟩; have T2 := Lib.hid t2; have k0 := h4.oldS hc0 hSb; have k1 := h4.oldS hc1 hSb; clear t2 h3 g1))
          | (go_at_call 23; ((with_reducible refine (cfin _ [] x y L1 L2 h4 (n1.trans HE1.out) (n2.trans HE2.out) T1.out T2.out g2).mono ?_); clear cfin; rintro e w5 ⟨t, L', rfl, h5, n5, t5, g5⟩)))
        go_ret2
        exact ⟨t, L', rfl, h5, n5, t5, g5⟩
      · go_enter Try.func9, Try.ntmps9
        go_wp2_with (first
          | (go_at_call 22; ((with_reducible refine ct.mono ?_); clear ct; rintro e w2 ⟨rfl, hb⟩; have h2 := HH.out.below hb; clear hb))
          | (go_at_call 9; ((with_reducible refine (c1 _ h2).mono ?_); clear c1; rintro e w3 ⟨x, L1, rfl, h3, n1, t1, g1⟩; have T1 := Lib.hid t1; clear t1 h2))
          | (go_at_call 9; ((with_reducible refine (c2 _ _ h3 g1 (by rw [List.length_append, n1, HE1.out])).mono ?_); clear c2; rintro e w4 ⟨y, L2, rfl, h4, n2, t2, g2⟩; have T2 := Lib.hid t2; have k0 := h4.oldS hc0 hSb; have k1 := h4.oldS hc1 hSb; clear t2 h3 g1))
          | (go_at_call 23; ((with_reducible refine (cfin _ [] x y L1 L2 h4 (n1.trans HE1.out) (n2.trans HE2.out) T1.out T2.out g2).mono ?_); clear cfin; rintro e w5 ⟨t, L', rfl, h5, n5, t5, g5⟩)))
        go_ret2
        exact ⟨t, L', rfl, h5, n5, t5, g5⟩
end Go.Proofs.Ytmbeaefgakfbnaa
