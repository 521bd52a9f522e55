/- 'osierlaw3.NodeSums' returns true for every slice of pairs. No condition. -/
import Derived.Test.YtpcfnnegialegaaRows
import Derived.Deep.RegionHeld3
import Derived.StillTailTactics
import Derived.Test.YtpcfnnegialegaaNSays
import Derived.LoopTactic
import Derived.WalkKit
import Derived.ProofKit
import Derived.OpenShut
import Derived.ChangeOld
import Derived.Below
namespace Go.Proofs.Ytpcfnnegialegaa.nodeSums
open Go.ChangeShapes Go.WideShapes Go.ChangeAt Go.RowKit
set_option linter.all false

theorem own : ownKnob Try.prog.godebug = none := by kernel_rfl
theorem laidOut : laidOutB Try.prog = true := by kernel_rfl

attribute [local go_sem] undef

theorem sums_keep {w1 W W' : World} {c d e p : Nat} {room st : Int} {L : List It} {k v x y s h sx hx sy hy : Int} (hb : Below W.heap.size W W')
    (hh : W.cell? ⟨c, 0, none⟩ = some (.int .i64 k) ∧ W.cell? ⟨c, 1, none⟩ = some (.int .i64 v) ∧ W.cell? ⟨c, 2, none⟩ = some (.int .i64 x) ∧ W.cell? ⟨c, 3, none⟩ = some (.int .i64 y) ∧ W.cell? ⟨c, 4, none⟩ = some (.int .i64 s) ∧ W.cell? ⟨c, 5, none⟩ = some (.int .i64 h) ∧ W.cell? ⟨d, 4, none⟩ = some (.int .i64 sx) ∧ W.cell? ⟨d, 5, none⟩ = some (.int .i64 hx) ∧ W.cell? ⟨e, 4, none⟩ = some (.int .i64 sy) ∧ W.cell? ⟨e, 5, none⟩ = some (.int .i64 hy) ∧ Held w1 W p room st L) : W'.cell? ⟨c, 0, none⟩ = some (.int .i64 k) ∧ W'.cell? ⟨c, 1, none⟩ = some (.int .i64 v) ∧ W'.cell? ⟨c, 2, none⟩ = some (.int .i64 x) ∧ W'.cell? ⟨c, 3, none⟩ = some (.int .i64 y) ∧ W'.cell? ⟨c, 4, none⟩ = some (.int .i64 s) ∧ W'.cell? ⟨c, 5, none⟩ = some (.int .i64 h) ∧ W'.cell? ⟨d, 4, none⟩ = some (.int .i64 sx) ∧ W'.cell? ⟨d, 5, none⟩ = some (.int .i64 hx) ∧ W'.cell? ⟨e, 4, none⟩ = some (.int .i64 sy) ∧ W'.cell? ⟨e, 5, none⟩ = some (.int .i64 hy) ∧ Held w1 W' p room st L := by
  obtain ⟨h0, h1, h2, h3, h4, h5, x4, x5, y4, y5, hH⟩ := hh
  have go : ∀ {q : Addr} {v : Value}, W.cell? q = some v → W'.cell? q = some v := fun hc => (hb.cell (World.block_lt_of_cell? W _ hc)).trans hc
  exact ⟨go h0, go h1, go h2, go h3, go h4, go h5, go x4, go x5, go y4, go y5, hH.below hb⟩
theorem sums_new {w1 W7 : World} {c d p : Nat} {room st : Int} {L : List It} {k v x y s h sx hx sy hy u0 u1 u2 u3 : Int}
    (hh : W7.cell? ⟨c, 0, none⟩ = some (.int .i64 k) ∧ W7.cell? ⟨c, 1, none⟩ = some (.int .i64 v) ∧ W7.cell? ⟨c, 2, none⟩ = some (.int .i64 x) ∧ W7.cell? ⟨c, 3, none⟩ = some (.int .i64 y) ∧ W7.cell? ⟨c, 4, none⟩ = some (.int .i64 s) ∧ W7.cell? ⟨c, 5, none⟩ = some (.int .i64 h) ∧ W7.cell? ⟨d, 4, none⟩ = some (.int .i64 sx) ∧ W7.cell? ⟨d, 5, none⟩ = some (.int .i64 hx)) (hH : Held w1 W7 p room st L) : ∀ W, W = (W7.alloc (.cells #[.int .i64 u0, .int .i64 u1, .int .i64 u2, .int .i64 u3, .int .i64 sy, .int .i64 hy] 36)).drew → W.cell? ⟨c, 0, none⟩ = some (.int .i64 k) ∧ W.cell? ⟨c, 1, none⟩ = some (.int .i64 v) ∧ W.cell? ⟨c, 2, none⟩ = some (.int .i64 x) ∧ W.cell? ⟨c, 3, none⟩ = some (.int .i64 y) ∧ W.cell? ⟨c, 4, none⟩ = some (.int .i64 s) ∧ W.cell? ⟨c, 5, none⟩ = some (.int .i64 h) ∧ W.cell? ⟨d, 4, none⟩ = some (.int .i64 sx) ∧ W.cell? ⟨d, 5, none⟩ = some (.int .i64 hx) ∧ W.cell? ⟨W7.heap.size, 4, none⟩ = some (.int .i64 sy) ∧ W.cell? ⟨W7.heap.size, 5, none⟩ = some (.int .i64 hy) ∧ Held w1 W p room st L := by
  rintro W rfl
  obtain ⟨h0, h1, h2, h3, h4, h5, x4, x5⟩ := hh
  have go : ∀ {q : Addr} {v : Value}, W7.cell? q = some v → (W7.alloc (.cells #[.int .i64 u0, .int .i64 u1, .int .i64 u2, .int .i64 u3, .int .i64 sy, .int .i64 hy] 36)).drew.cell? q = some v := fun hc => cell_alloc hc (.cells #[.int .i64 u0, .int .i64 u1, .int .i64 u2, .int .i64 u3, .int .i64 sy, .int .i64 hy] 36)
  exact ⟨go h0, go h1, go h2, go h3, go h4, go h5, go x4, go x5, by simp, by simp, (hH.alloc (.cells #[.int .i64 u0, .int .i64 u1, .int .i64 u2, .int .i64 u3, .int .i64 sy, .int .i64 hy] 36)).below ((Below.refl _ _).drew)⟩

theorem one_keep {w1 W W' : World} {c p : Nat} {room st : Int} {L : List It} {k v x y s h : Int} (hb : Below W.heap.size W W')
    (hh : W.cell? ⟨c, 0, none⟩ = some (.int .i64 k) ∧ W.cell? ⟨c, 1, none⟩ = some (.int .i64 v) ∧ W.cell? ⟨c, 2, none⟩ = some (.int .i64 x) ∧ W.cell? ⟨c, 3, none⟩ = some (.int .i64 y) ∧ W.cell? ⟨c, 4, none⟩ = some (.int .i64 s) ∧ W.cell? ⟨c, 5, none⟩ = some (.int .i64 h) ∧ Held w1 W p room st L) : W'.cell? ⟨c, 0, none⟩ = some (.int .i64 k) ∧ W'.cell? ⟨c, 1, none⟩ = some (.int .i64 v) ∧ W'.cell? ⟨c, 2, none⟩ = some (.int .i64 x) ∧ W'.cell? ⟨c, 3, none⟩ = some (.int .i64 y) ∧ W'.cell? ⟨c, 4, none⟩ = some (.int .i64 s) ∧ W'.cell? ⟨c, 5, none⟩ = some (.int .i64 h) ∧ Held w1 W' p room st L := by
  obtain ⟨h0, h1, h2, h3, h4, h5, hH⟩ := hh
  have go : ∀ {q : Addr} {v : Value}, W.cell? q = some v → W'.cell? q = some v := fun hc => (hb.cell (World.block_lt_of_cell? W _ hc)).trans hc
  exact ⟨go h0, go h1, go h2, go h3, go h4, go h5, hH.below hb⟩
theorem one_held {w1 W : World} {c p : Nat} {room st : Int} {L : List It} {k v x y s h : Int} (hh : W.cell? ⟨c, 0, none⟩ = some (.int .i64 k) ∧ W.cell? ⟨c, 1, none⟩ = some (.int .i64 v) ∧ W.cell? ⟨c, 2, none⟩ = some (.int .i64 x) ∧ W.cell? ⟨c, 3, none⟩ = some (.int .i64 y) ∧ W.cell? ⟨c, 4, none⟩ = some (.int .i64 s) ∧ W.cell? ⟨c, 5, none⟩ = some (.int .i64 h) ∧ Held w1 W p room st L) : Held w1 W p room st L := hh.2.2.2.2.2.2
theorem one_new {w1 W5 : World} {p : Nat} {room st : Int} {L : List It} {k v x y s h : Int} (hH : Held w1 W5 p room st L) : ∀ W, W = (W5.alloc (.cells #[.int .i64 k, .int .i64 v, .int .i64 x, .int .i64 y, .int .i64 s, .int .i64 h] 36)).drew → W.cell? ⟨W5.heap.size, 0, none⟩ = some (.int .i64 k) ∧ W.cell? ⟨W5.heap.size, 1, none⟩ = some (.int .i64 v) ∧ W.cell? ⟨W5.heap.size, 2, none⟩ = some (.int .i64 x) ∧ W.cell? ⟨W5.heap.size, 3, none⟩ = some (.int .i64 y) ∧ W.cell? ⟨W5.heap.size, 4, none⟩ = some (.int .i64 s) ∧ W.cell? ⟨W5.heap.size, 5, none⟩ = some (.int .i64 h) ∧ Held w1 W p room st L := by
  rintro W rfl
  exact ⟨by simp, by simp, by simp, by simp, by simp, by simp, (hH.alloc (.cells #[.int .i64 k, .int .i64 v, .int .i64 x, .int .i64 y, .int .i64 s, .int .i64 h] 36)).below ((Below.refl _ _).drew)⟩

theorem leaf_b (v0 v1 v2 v3 v4 v5 : Int) (b : Bool) (hb : (v2 == 0 && v3 == 0) = b) (w : World) :
    Calls Try.prog 12 #[.agg #[.int .i64 v0, .int .i64 v1, .int .i64 v2, .int .i64 v3, .int .i64 v4, .int .i64 v5]] w fun e w' => e = .returned (.bool b) ∧ Below w.heap.size w w' := by
  subst hb; exact leaf_any v0 v1 v2 v3 v4 v5 w

/-- Get of what hangs on a node: its size and height, of nothing 0. -/
theorem get_hung {w : World} {p : Nat} {F : Nat → Prop} {room st : Int} {L : List It} (h : Arena w p F room st L) (x sx hx : Int) (hs : sizeL L x = sx) (hh : highL L x = hx) (hk : HungOk L x) :
    Calls Try.prog 11 #[.pointer (some ⟨p, 0, none⟩), .int .i64 x] w fun e w' =>
      (∃ (m0 m1 m2 m3 : Int) (b : Bool), e = .returned (.tuple #[.agg #[.int .i64 m0, .int .i64 m1, .int .i64 m2, .int .i64 m3, .int .i64 sx, .int .i64 hx], .bool b])) ∧ Below w.heap.size w w' := by
  subst hs; subst hh
  unfold sizeL highL
  by_cases h0 : x = 0
  · rw [if_pos h0, if_pos h0]
    exact (get_no x w p F room st L h (by rw [kindL_zero L x (by omega)]; omega)).mono fun e w' hh => ⟨⟨_, _, _, _, _, hh.1⟩, hh.2⟩
  · rw [if_neg h0, if_neg h0]
    exact (get_yes x w p F room st L h (hk.resolve_left h0)).mono fun e w' hh => ⟨⟨_, _, _, _, _, hh.1⟩, hh.2⟩

theorem good_at {L : List It} (hG : Good L) (x : Int) (h0 : 0 ≤ x) (h1 : x ≤ L.length) : HungOk L x ∧ 0 ≤ sizeL L x ∧ sizeL L x ≤ 1000 ∧ 0 ≤ highL L x ∧ highL L x ≤ 1000 ∧ (x ≠ 0 → 1 ≤ sizeL L x) := by
  by_cases hx : x = 0
  · subst hx
    exact ⟨.inl rfl, Int.le_refl _, (by show (0 : Int) ≤ 1000; decide), Int.le_refl _, (by show (0 : Int) ≤ 1000; decide), fun h => absurd rfl h⟩
  · obtain ⟨k, v, a, b, s, h, e, _, _, _, _, _, _, s1, s2, h1, h2⟩ := hG x (by omega) h1
    obtain ⟨e1, e2, e3⟩ := node_sizes e
    rw [e1, e2]
    exact ⟨e3, by omega, by omega, by omega, by omega, fun _ => by omega⟩

set_option maxRecDepth 100000 in
set_option maxHeartbeats 12800000 in
theorem walk (a0 : Option Addr) (cap0 : Nat) (z0 : List Pr) (w : World) (w0 : Prs w a0 cap0 z0) :
    Calls Try.prog 6 #[.slice a0 z0.length cap0] w fun e w' => e = .returned (.bool true) ∧ Below w.heap.size w w' := by
  have cp : Calls Try.prog 16 #[.slice a0 z0.length cap0, .int .i64 50] w (WithSays w 50) := pairs_any a0 cap0 z0 50 w w0 (by omega)
  have hc0 := w0.1
  have hc1 := w0.2.1
  clear w0
  unfold maxLen at hc1
  go_enter Try.func6, Try.ntmps6
  go_wp2_with (first
    | (go_at_call 16; ((with_reducible refine cp.mono ?_); clear cp; rintro e W2 ⟨ao, c, l, rfl, hl, hP, hbw⟩; have hP1 := hP.1; have hP2 := hP.2.1; have HP := Lib.hid hP; clear hP; unfold maxLen at hP2))
    | (go_at_call 9; ((with_reducible refine (new_held 100 100 W2 _ (Below.refl _ _) (by decide)).mono ?_); rintro e W3 ⟨p, rfl, h1⟩))
    | (go_at_call 17; ((with_reducible refine (laid_any W2 p _ _ _ ao c l _ [] (Nat.le_refl _) HP.out h1 Good.nil (by simp; omega) (by omega)).mono ?_); rintro e W4 ⟨t, L', rfl, h4, n4, t4, g4⟩; rw [List.nil_append] at h4 t4 g4; have T4 := Lib.hid t4; have G4 := Lib.hid g4; have H4 := Lib.hid h4; have n4' := n4; clear t4 g4 h1 n4 h4)))
  go_loopw [7] (fun i wr => ∃ id : Int, 1 ≤ id ∧ id ≤ (l.length : Int) + 1 ∧ i = .int .i64 id ∧ Held W2 wr p 100 0 L') (fun i _ => l.length + 1 - (intOf i).toNat)
  case atStart => exact ⟨1, by omega, by omega, rfl, H4.out⟩
  case round =>
    obtain ⟨id, hid1, hid2, rfl, hH⟩ := hrel
    have HH := Lib.hid hH
    clear H4
    by_cases hlt : id ≤ (l.length : Int)
    · obtain ⟨k, v, x, y, s, h, e, ax, bx, ay, by_, es, eh, s1, s2, h1, h2⟩ := G4.out id hid1 (by rw [n4']; exact hlt)
      obtain ⟨ok1, p1, p2, p3, p4, p5⟩ := good_at G4.out x ax (by rw [n4']; omega)
      obtain ⟨ok2, r1, r2, r3, r4, r5⟩ := good_at G4.out y ay (by rw [n4']; omega)
      obtain ⟨N0, N1, N2, N3, N4, N5, N6⟩ := node_says e
      have cg1 := fun W (hb : Below wr.heap.size wr W) => get_yes id W p _ 100 0 L' (hH.a.below hb) N0
      rw [N1, N2, N3, N4, N5, N6] at cg1
      obtain ⟨sx, esx⟩ : ∃ sx, sizeL L' x = sx := ⟨_, rfl⟩
      obtain ⟨sy, esy⟩ : ∃ sy, sizeL L' y = sy := ⟨_, rfl⟩
      obtain ⟨hx, ehx⟩ : ∃ hx, highL L' x = hx := ⟨_, rfl⟩
      obtain ⟨hy, ehy⟩ : ∃ hy, highL L' y = hy := ⟨_, rfl⟩
      rw [esx] at p1 p2 p5 es
      rw [esy] at r1 r2 r5 es
      rw [ehx] at p3 p4 eh
      rw [ehy] at r3 r4 eh
      have HX := Lib.hid (And.intro esx (And.intro ehx ok1))
      have HY := Lib.hid (And.intro esy (And.intro ehy ok2))
      obtain ⟨bl, hbl⟩ : ∃ b, (s == 1) = b := ⟨_, rfl⟩
      have cl := fun W => leaf_b k v x y s h bl (by
        rw [← hbl, Bool.eq_iff_iff, Bool.and_eq_true, beq_iff_eq, beq_iff_eq, beq_iff_eq]
        constructor
        · rintro ⟨rfl, rfl⟩
          have a1 : sx = 0 := by rw [← esx]; rfl
          have a2 : sy = 0 := by rw [← esy]; rfl
          omega
        · intro hs
          refine ⟨?_, ?_⟩
          · exact Classical.byContradiction (fun hne => by have := p5 hne; omega)
          · exact Classical.byContradiction (fun hne => by have := r5 hne; omega)) W
      have hlt' := hlt
      have hax : decide (id ≤ x) = false := by rw [decide_eq_false_iff_not]; omega
      have hay : decide (id ≤ y) = false := by rw [decide_eq_false_iff_not]; omega
      have hw1 : IntKind.i64.wrap (sx + sy) = sx + sy := by rw [IntKind.wrap_i64]; omega
      have hw2 : IntKind.i64.wrap (sx + sy + 1) = s := by rw [IntKind.wrap_i64]; omega
      clear hH e N0 N1 N2 N3 N4 N5 N6 ok1 ok2 esx esy ehx ehy
      by_cases hm : hx < hy
      · have hw3 : IntKind.i64.wrap (hy + 1) = h := by rw [IntKind.wrap_i64]; omega
        clear eh es
        go_wp2_with (first
          | (go_at_call 19; ((with_reducible refine (used_held HH.out (l.length : Int) (by rw [n4'])).mono ?_); rintro e W8 ⟨rfl, rfl⟩))
          | (go_at_call 11; ((with_reducible refine (cg1 _ (Below.refl _ _)).mono ?_); clear cg1; rintro e W5 ⟨rfl, hb5⟩; have h5 := HH.out.below hb5; clear hb5))
          | (go_at_call 11; ((with_reducible refine (get_hung (h5.alloc _).a x sx hx HX.out.1 HX.out.2.1 HX.out.2.2).mono ?_); rintro e W6 ⟨⟨m0, m1, m2, m3, q1, rfl⟩, hb6⟩; have h6 := (h5.alloc _).below hb6; have n0 := cell_alloc (cell_new hb6 0 rfl) (.cells #[.int .i64 m0, .int .i64 m1, .int .i64 m2, .int .i64 m3, .int .i64 sx, .int .i64 hx] 36); have n1 := cell_alloc (cell_new hb6 1 rfl) (.cells #[.int .i64 m0, .int .i64 m1, .int .i64 m2, .int .i64 m3, .int .i64 sx, .int .i64 hx] 36); have n2 := cell_alloc (cell_new hb6 2 rfl) (.cells #[.int .i64 m0, .int .i64 m1, .int .i64 m2, .int .i64 m3, .int .i64 sx, .int .i64 hx] 36); have n3 := cell_alloc (cell_new hb6 3 rfl) (.cells #[.int .i64 m0, .int .i64 m1, .int .i64 m2, .int .i64 m3, .int .i64 sx, .int .i64 hx] 36); have n4 := cell_alloc (cell_new hb6 4 rfl) (.cells #[.int .i64 m0, .int .i64 m1, .int .i64 m2, .int .i64 m3, .int .i64 sx, .int .i64 hx] 36); have n5 := cell_alloc (cell_new hb6 5 rfl) (.cells #[.int .i64 m0, .int .i64 m1, .int .i64 m2, .int .i64 m3, .int .i64 sx, .int .i64 hx] 36); clear h5 hb6))
          | (go_at_call 11; ((with_reducible refine (get_hung (h6.alloc _).a y sy hy HY.out.1 HY.out.2.1 HY.out.2.2).mono ?_); rintro e W7 ⟨⟨u0, u1, u2, u3, q2, rfl⟩, hb7⟩; have h7 := (h6.alloc _).below hb7; have go : ∀ {q : Addr} {v : Value}, (W6.alloc (.cells #[.int .i64 m0, .int .i64 m1, .int .i64 m2, .int .i64 m3, .int .i64 sx, .int .i64 hx] 36)).cell? q = some v → W7.cell? q = some v := fun hc => (hb7.cell (World.block_lt_of_cell? _ _ hc)).trans hc; have C7 := Lib.hid (And.intro (go n0) (And.intro (go n1) (And.intro (go n2) (And.intro (go n3) (And.intro (go n4) (And.intro (go n5) (And.intro (cell_new (v := .int .i64 sx) hb7 4 rfl) (cell_new (v := .int .i64 hx) hb7 5 rfl)))))))); clear go n0 n1 n2 n3 n4 n5 h6 hb7)))
        have H7 := Lib.hid h7
        clear h7
        go_region_held3 (fun W => W.cell? ⟨W5.heap.size, 0, none⟩ = some (.int .i64 k) ∧ W.cell? ⟨W5.heap.size, 1, none⟩ = some (.int .i64 v) ∧ W.cell? ⟨W5.heap.size, 2, none⟩ = some (.int .i64 x) ∧ W.cell? ⟨W5.heap.size, 3, none⟩ = some (.int .i64 y) ∧ W.cell? ⟨W5.heap.size, 4, none⟩ = some (.int .i64 s) ∧ W.cell? ⟨W5.heap.size, 5, none⟩ = some (.int .i64 h) ∧ W.cell? ⟨W6.heap.size, 4, none⟩ = some (.int .i64 sx) ∧ W.cell? ⟨W6.heap.size, 5, none⟩ = some (.int .i64 hx) ∧ W.cell? ⟨W7.heap.size, 4, none⟩ = some (.int .i64 sy) ∧ W.cell? ⟨W7.heap.size, 5, none⟩ = some (.int .i64 hy) ∧ Held W2 W p 100 0 L')
          (first | exact sums_keep hb (by assumption) | exact sums_new C7.out H7.out _ rfl | go_keep)
          (first
            | (go_at_call 12; ((with_reducible refine (cl _).mono ?_); rintro e W8 ⟨rfl, hb⟩)))
        go_split_ands
        go_wp2_with (fail)
        go_roundw
        case rel => exact ⟨id + 1, by omega, by omega, by go_num, by assumption⟩
        case measure => simp [intOf]; omega
      · have hw3 : IntKind.i64.wrap (hx + 1) = h := by rw [IntKind.wrap_i64]; omega
        clear eh es
        go_wp2_with (first
          | (go_at_call 19; ((with_reducible refine (used_held HH.out (l.length : Int) (by rw [n4'])).mono ?_); rintro e W8 ⟨rfl, rfl⟩))
          | (go_at_call 11; ((with_reducible refine (cg1 _ (Below.refl _ _)).mono ?_); clear cg1; rintro e W5 ⟨rfl, hb5⟩; have h5 := HH.out.below hb5; clear hb5))
          | (go_at_call 11; ((with_reducible refine (get_hung (h5.alloc _).a x sx hx HX.out.1 HX.out.2.1 HX.out.2.2).mono ?_); rintro e W6 ⟨⟨m0, m1, m2, m3, q1, rfl⟩, hb6⟩; have h6 := (h5.alloc _).below hb6; have n0 := cell_alloc (cell_new hb6 0 rfl) (.cells #[.int .i64 m0, .int .i64 m1, .int .i64 m2, .int .i64 m3, .int .i64 sx, .int .i64 hx] 36); have n1 := cell_alloc (cell_new hb6 1 rfl) (.cells #[.int .i64 m0, .int .i64 m1, .int .i64 m2, .int .i64 m3, .int .i64 sx, .int .i64 hx] 36); have n2 := cell_alloc (cell_new hb6 2 rfl) (.cells #[.int .i64 m0, .int .i64 m1, .int .i64 m2, .int .i64 m3, .int .i64 sx, .int .i64 hx] 36); have n3 := cell_alloc (cell_new hb6 3 rfl) (.cells #[.int .i64 m0, .int .i64 m1, .int .i64 m2, .int .i64 m3, .int .i64 sx, .int .i64 hx] 36); have n4 := cell_alloc (cell_new hb6 4 rfl) (.cells #[.int .i64 m0, .int .i64 m1, .int .i64 m2, .int .i64 m3, .int .i64 sx, .int .i64 hx] 36); have n5 := cell_alloc (cell_new hb6 5 rfl) (.cells #[.int .i64 m0, .int .i64 m1, .int .i64 m2, .int .i64 m3, .int .i64 sx, .int .i64 hx] 36); clear h5 hb6))
          | (go_at_call 11; ((with_reducible refine (get_hung (h6.alloc _).a y sy hy HY.out.1 HY.out.2.1 HY.out.2.2).mono ?_); rintro e W7 ⟨⟨u0, u1, u2, u3, q2, rfl⟩, hb7⟩; have h7 := (h6.alloc _).below hb7; have go : ∀ {q : Addr} {v : Value}, (W6.alloc (.cells #[.int .i64 m0, .int .i64 m1, .int .i64 m2, .int .i64 m3, .int .i64 sx, .int .i64 hx] 36)).cell? q = some v → W7.cell? q = some v := fun hc => (hb7.cell (World.block_lt_of_cell? _ _ hc)).trans hc; have C7 := Lib.hid (And.intro (go n0) (And.intro (go n1) (And.intro (go n2) (And.intro (go n3) (And.intro (go n4) (And.intro (go n5) (And.intro (cell_new (v := .int .i64 sx) hb7 4 rfl) (cell_new (v := .int .i64 hx) hb7 5 rfl)))))))); clear go n0 n1 n2 n3 n4 n5 h6 hb7)))
        have H7 := Lib.hid h7
        clear h7
        have hm2 : ¬ hx < hy := by omega
        have hif : (if hx < hy then hy else hx) = hx := if_neg hm2
        go_region_held3 (fun W => W.cell? ⟨W5.heap.size, 0, none⟩ = some (.int .i64 k) ∧ W.cell? ⟨W5.heap.size, 1, none⟩ = some (.int .i64 v) ∧ W.cell? ⟨W5.heap.size, 2, none⟩ = some (.int .i64 x) ∧ W.cell? ⟨W5.heap.size, 3, none⟩ = some (.int .i64 y) ∧ W.cell? ⟨W5.heap.size, 4, none⟩ = some (.int .i64 s) ∧ W.cell? ⟨W5.heap.size, 5, none⟩ = some (.int .i64 h) ∧ W.cell? ⟨W6.heap.size, 4, none⟩ = some (.int .i64 sx) ∧ W.cell? ⟨W6.heap.size, 5, none⟩ = some (.int .i64 hx) ∧ W.cell? ⟨W7.heap.size, 4, none⟩ = some (.int .i64 sy) ∧ W.cell? ⟨W7.heap.size, 5, none⟩ = some (.int .i64 hy) ∧ Held W2 W p 100 0 L')
          (first | exact sums_keep hb (by assumption) | exact sums_new C7.out H7.out _ rfl | go_keep)
          (first
            | (go_at_call 12; ((with_reducible refine (cl _).mono ?_); rintro e W8 ⟨rfl, hb⟩)))
        go_split_ands
        go_wp2_with (fail)
        go_roundw
        case rel => exact ⟨id + 1, by omega, by omega, by go_num, by assumption⟩
        case measure => simp [intOf]; omega
    · obtain rfl : id = (l.length : Int) + 1 := by omega
      have hlt' : ¬ (l.length : Int) + 1 ≤ (l.length : Int) := by omega
      by_cases hl0 : l.length = 0
      · obtain rfl : l = [] := List.eq_nil_of_length_eq_zero hl0
        obtain rfl : t = 0 := by
          cases T4.out with
          | nil => rfl
          | node _ x y _ i q h1 h2 h3 => simp at h2
        have cg := fun W (hb : Below wr.heap.size wr W) => get_no 0 W p _ 100 0 L' (hH.a.below hb) (by rw [kindL_zero L' 0 (by omega)]; omega)
        clear hH
        go_wp2_with (first
          | (go_at_call 19; ((with_reducible refine (used_held HH.out 0 (by simp [n4'])).mono ?_); rintro e W8 ⟨rfl, rfl⟩))
          | (go_at_call 11; ((with_reducible refine (cg _ (Below.refl _ _)).mono ?_); clear cg; rintro e W5 ⟨rfl, hb5⟩; have h5 := HH.out.below hb5; clear hb5)))
        have H5 := Lib.hid h5
        clear h5
        refine wp_region_held_drew (S := fun W => Held W2 W p 100 0 L') (by kernel_rfl) (((H5.out.alloc _).below ((Below.refl _ _).drew))) (fun hHeld => ?_)
        refine wpAnyH_take (i := 0) (v := ?_) rfl (by kernel_rfl) (by kernel_rfl) (by kernel_rfl) (fun _ _ _ h => h) (Or.inl ⟨by rfl, ?_⟩) hHeld ?_
        rotate_left
        · (intro wS hSw; (try dsimp only at hSw); go_simp; try with_reducible rfl)
        try simp only [List.getElem_toArray, List.getElem_cons_succ, List.getElem_cons_zero, Act.put, List.setIfInBounds_toArray, List.set_cons_zero, List.set_cons_succ]
        refine wpAnyH_take (i := 1) (v := ?_) rfl (by kernel_rfl) (by kernel_rfl) (by kernel_rfl) (fun _ _ _ h => h) (Or.inl ⟨by rfl, ?_⟩) hHeld ?_
        rotate_left
        · (intro wS hSw; (try dsimp only at hSw); go_simp; try with_reducible rfl)
        try simp only [List.getElem_toArray, List.getElem_cons_succ, List.getElem_cons_zero, Act.put, List.setIfInBounds_toArray, List.set_cons_zero, List.set_cons_succ]
        refine wpAnyH_take (i := 2) (v := ?_) rfl (by kernel_rfl) (by kernel_rfl) (by kernel_rfl) (fun _ _ _ h => h) (Or.inl ⟨by rfl, ?_⟩) hHeld ?_
        rotate_left
        · (intro wS hSw; (try dsimp only at hSw); go_simp; try with_reducible rfl)
        try simp only [List.getElem_toArray, List.getElem_cons_succ, List.getElem_cons_zero, Act.put, List.setIfInBounds_toArray, List.set_cons_zero, List.set_cons_succ]
        refine wpAnyH_take (i := 3) (v := ?_) rfl (by kernel_rfl) (by kernel_rfl) (by kernel_rfl) (fun _ _ _ h => h) (Or.inl ⟨by rfl, ?_⟩) hHeld ?_
        rotate_left
        · (intro wS hSw; (try dsimp only at hSw); go_simp; try with_reducible rfl)
        try simp only [List.getElem_toArray, List.getElem_cons_succ, List.getElem_cons_zero, Act.put, List.setIfInBounds_toArray, List.set_cons_zero, List.set_cons_succ]
        refine wpAnyH_take (i := 4) (v := ?_) rfl (by kernel_rfl) (by kernel_rfl) (by kernel_rfl) (fun _ _ _ h => h) (Or.inl ⟨by rfl, ?_⟩) hHeld ?_
        rotate_left
        · (intro wS hSw; (try dsimp only at hSw); go_simp; try with_reducible rfl)
        try simp only [List.getElem_toArray, List.getElem_cons_succ, List.getElem_cons_zero, Act.put, List.setIfInBounds_toArray, List.set_cons_zero, List.set_cons_succ]
        refine wpAnyH_take (i := 5) (v := ?_) rfl (by kernel_rfl) (by kernel_rfl) (by kernel_rfl) (fun _ _ _ h => h) (Or.inl ⟨by rfl, ?_⟩) hHeld ?_
        rotate_left
        · (intro wS hSw; (try dsimp only at hSw); go_simp; try with_reducible rfl)
        try simp only [List.getElem_toArray, List.getElem_cons_succ, List.getElem_cons_zero, Act.put, List.setIfInBounds_toArray, List.set_cons_zero, List.set_cons_succ]
        refine wpAnyH_take (i := 6) (v := ?_) rfl (by kernel_rfl) (by kernel_rfl) (by kernel_rfl) (fun _ _ _ h => h) (Or.inl ⟨by rfl, ?_⟩) hHeld ?_
        rotate_left
        · (intro wS hSw; (try dsimp only at hSw); go_simp; try with_reducible rfl)
        try simp only [List.getElem_toArray, List.getElem_cons_succ, List.getElem_cons_zero, Act.put, List.setIfInBounds_toArray, List.set_cons_zero, List.set_cons_succ]
        refine wpAnyH_take (i := 7) (v := ?_) rfl (by kernel_rfl) (by kernel_rfl) (by kernel_rfl) (fun _ _ _ h => h) (Or.inl ⟨by rfl, ?_⟩) hHeld ?_
        rotate_left
        · (intro wS hSw; (try dsimp only at hSw); go_simp; try with_reducible rfl)
        try simp only [List.getElem_toArray, List.getElem_cons_succ, List.getElem_cons_zero, Act.put, List.setIfInBounds_toArray, List.set_cons_zero, List.set_cons_succ]
        refine wpAnyH_take (i := 8) (v := ?_) rfl (by kernel_rfl) (by kernel_rfl) (by kernel_rfl) (fun _ _ _ h => h) (Or.inl ⟨by rfl, ?_⟩) hHeld ?_
        rotate_left
        · (intro wS hSw; (try dsimp only at hSw); go_simp; try with_reducible rfl)
        try simp only [List.getElem_toArray, List.getElem_cons_succ, List.getElem_cons_zero, Act.put, List.setIfInBounds_toArray, List.set_cons_zero, List.set_cons_succ]
        refine wpAnyH_take (i := 9) (v := undef) rfl (by kernel_rfl) (by kernel_rfl) (by kernel_rfl) (fun _ _ _ h => h) (Or.inr ⟨by rfl, rfl⟩) hHeld ?_
        try simp only [List.getElem_toArray, List.getElem_cons_succ, List.getElem_cons_zero, Act.put, List.setIfInBounds_toArray, List.set_cons_zero, List.set_cons_succ]
        refine wpAnyH_take (i := 10) (v := undef) rfl (by kernel_rfl) (by kernel_rfl) (by kernel_rfl) (fun _ _ _ h => h) (Or.inr ⟨by rfl, rfl⟩) hHeld ?_
        try simp only [List.getElem_toArray, List.getElem_cons_succ, List.getElem_cons_zero, Act.put, List.setIfInBounds_toArray, List.set_cons_zero, List.set_cons_succ]
        refine wpAnyH_take (i := 11) (v := undef) rfl (by kernel_rfl) (by kernel_rfl) (by kernel_rfl) (fun _ _ _ h => h) (Or.inr ⟨by rfl, rfl⟩) hHeld ?_
        try simp only [List.getElem_toArray, List.getElem_cons_succ, List.getElem_cons_zero, Act.put, List.setIfInBounds_toArray, List.set_cons_zero, List.set_cons_succ]
        refine wpAnyH_take (i := 12) (v := undef) rfl (by kernel_rfl) (by kernel_rfl) (by kernel_rfl) (fun _ _ _ h => h) (Or.inr ⟨by rfl, rfl⟩) hHeld ?_
        try simp only [List.getElem_toArray, List.getElem_cons_succ, List.getElem_cons_zero, Act.put, List.setIfInBounds_toArray, List.set_cons_zero, List.set_cons_succ]
        refine wpAnyH_take (i := 13) (v := undef) rfl (by kernel_rfl) (by kernel_rfl) (by kernel_rfl) (fun _ _ _ h => h) (Or.inr ⟨by rfl, rfl⟩) hHeld ?_
        try simp only [List.getElem_toArray, List.getElem_cons_succ, List.getElem_cons_zero, Act.put, List.setIfInBounds_toArray, List.set_cons_zero, List.set_cons_succ]
        refine wpAnyH_take (i := 14) (v := undef) rfl (by kernel_rfl) (by kernel_rfl) (by kernel_rfl) (fun _ _ _ h => h) (Or.inr ⟨by rfl, rfl⟩) hHeld ?_
        try simp only [List.getElem_toArray, List.getElem_cons_succ, List.getElem_cons_zero, Act.put, List.setIfInBounds_toArray, List.set_cons_zero, List.set_cons_succ]
        refine wpAnyH_take (i := 15) (v := undef) rfl (by kernel_rfl) (by kernel_rfl) (by kernel_rfl) (fun _ _ _ h => h) (Or.inr ⟨by rfl, rfl⟩) hHeld ?_
        try simp only [List.getElem_toArray, List.getElem_cons_succ, List.getElem_cons_zero, Act.put, List.setIfInBounds_toArray, List.set_cons_zero, List.set_cons_succ]
        refine wpAnyH_take (i := 16) (v := undef) rfl (by kernel_rfl) (by kernel_rfl) (by kernel_rfl) (fun _ _ _ h => h) (Or.inr ⟨by rfl, rfl⟩) hHeld ?_
        try simp only [List.getElem_toArray, List.getElem_cons_succ, List.getElem_cons_zero, Act.put, List.setIfInBounds_toArray, List.set_cons_zero, List.set_cons_succ]
        refine wpAnyH_take (i := 17) (v := undef) rfl (by kernel_rfl) (by kernel_rfl) (by kernel_rfl) (fun _ _ _ h => h) (Or.inr ⟨by rfl, rfl⟩) hHeld ?_
        try simp only [List.getElem_toArray, List.getElem_cons_succ, List.getElem_cons_zero, Act.put, List.setIfInBounds_toArray, List.set_cons_zero, List.set_cons_succ]
        refine wpAnyH_take (i := 18) (v := undef) rfl (by kernel_rfl) (by kernel_rfl) (by kernel_rfl) (fun _ _ _ h => h) (Or.inr ⟨by rfl, rfl⟩) hHeld ?_
        try simp only [List.getElem_toArray, List.getElem_cons_succ, List.getElem_cons_zero, Act.put, List.setIfInBounds_toArray, List.set_cons_zero, List.set_cons_succ]
        refine wpAnyH_take (i := 19) (v := undef) rfl (by kernel_rfl) (by kernel_rfl) (by kernel_rfl) (fun _ _ _ h => h) (Or.inr ⟨by rfl, rfl⟩) hHeld ?_
        try simp only [List.getElem_toArray, List.getElem_cons_succ, List.getElem_cons_zero, Act.put, List.setIfInBounds_toArray, List.set_cons_zero, List.set_cons_succ]
        refine wpAnyH_take (i := 20) (v := undef) rfl (by kernel_rfl) (by kernel_rfl) (by kernel_rfl) (fun _ _ _ h => h) (Or.inr ⟨by rfl, rfl⟩) hHeld ?_
        try simp only [List.getElem_toArray, List.getElem_cons_succ, List.getElem_cons_zero, Act.put, List.setIfInBounds_toArray, List.set_cons_zero, List.set_cons_succ]
        refine wpAnyH_take (i := 21) (v := undef) rfl (by kernel_rfl) (by kernel_rfl) (by kernel_rfl) (fun _ _ _ h => h) (Or.inr ⟨by rfl, rfl⟩) hHeld ?_
        try simp only [List.getElem_toArray, List.getElem_cons_succ, List.getElem_cons_zero, Act.put, List.setIfInBounds_toArray, List.set_cons_zero, List.set_cons_succ]
        refine wpAnyH_take (i := 22) (v := undef) rfl (by kernel_rfl) (by kernel_rfl) (by kernel_rfl) (fun _ _ _ h => h) (Or.inr ⟨by rfl, rfl⟩) hHeld ?_
        try simp only [List.getElem_toArray, List.getElem_cons_succ, List.getElem_cons_zero, Act.put, List.setIfInBounds_toArray, List.set_cons_zero, List.set_cons_succ]
        refine wpAnyH_take (i := 23) (v := undef) rfl (by kernel_rfl) (by kernel_rfl) (by kernel_rfl) (fun _ _ _ h => h) (Or.inr ⟨by rfl, rfl⟩) hHeld ?_
        try simp only [List.getElem_toArray, List.getElem_cons_succ, List.getElem_cons_zero, Act.put, List.setIfInBounds_toArray, List.set_cons_zero, List.set_cons_succ]
        refine wpAnyH_take (i := 24) (v := undef) rfl (by kernel_rfl) (by kernel_rfl) (by kernel_rfl) (fun _ _ _ h => h) (Or.inr ⟨by rfl, rfl⟩) hHeld ?_
        try simp only [List.getElem_toArray, List.getElem_cons_succ, List.getElem_cons_zero, Act.put, List.setIfInBounds_toArray, List.set_cons_zero, List.set_cons_succ]
        refine wpAnyH_take (i := 25) (v := undef) rfl (by kernel_rfl) (by kernel_rfl) (by kernel_rfl) (fun _ _ _ h => h) (Or.inr ⟨by rfl, rfl⟩) hHeld ?_
        try simp only [List.getElem_toArray, List.getElem_cons_succ, List.getElem_cons_zero, Act.put, List.setIfInBounds_toArray, List.set_cons_zero, List.set_cons_succ]
        refine wpAnyH_take (i := 26) (v := undef) rfl (by kernel_rfl) (by kernel_rfl) (by kernel_rfl) (fun _ _ _ h => h) (Or.inr ⟨by rfl, rfl⟩) hHeld ?_
        try simp only [List.getElem_toArray, List.getElem_cons_succ, List.getElem_cons_zero, Act.put, List.setIfInBounds_toArray, List.set_cons_zero, List.set_cons_succ]
        refine wpAnyH_take (i := 27) (v := undef) rfl (by kernel_rfl) (by kernel_rfl) (by kernel_rfl) (fun _ _ _ h => h) (Or.inr ⟨by rfl, rfl⟩) hHeld ?_
        try simp only [List.getElem_toArray, List.getElem_cons_succ, List.getElem_cons_zero, Act.put, List.setIfInBounds_toArray, List.set_cons_zero, List.set_cons_succ]
        refine wpAnyH_take (i := 28) (v := ?_) rfl (by kernel_rfl) (by kernel_rfl) (by kernel_rfl) (fun _ _ _ h => h) (Or.inl ⟨by rfl, ?_⟩) hHeld ?_
        rotate_left
        · (intro wS hSw; (try dsimp only at hSw); go_simp; try with_reducible rfl)
        try simp only [List.getElem_toArray, List.getElem_cons_succ, List.getElem_cons_zero, Act.put, List.setIfInBounds_toArray, List.set_cons_zero, List.set_cons_succ]
        refine wpAnyH_take (i := 29) (v := ?_) rfl (by kernel_rfl) (by kernel_rfl) (by kernel_rfl) (fun _ _ _ h => h) (Or.inl ⟨by rfl, ?_⟩) hHeld ?_
        rotate_left
        · (intro wS hSw; (try dsimp only at hSw); go_simp; try with_reducible rfl)
        try simp only [List.getElem_toArray, List.getElem_cons_succ, List.getElem_cons_zero, Act.put, List.setIfInBounds_toArray, List.set_cons_zero, List.set_cons_succ]
        refine wpAnyH_take (i := 30) (v := ?_) rfl (by kernel_rfl) (by kernel_rfl) (by kernel_rfl) (fun _ _ _ h => h) (Or.inl ⟨by rfl, ?_⟩) hHeld ?_
        rotate_left
        · (intro wS hSw; (try dsimp only at hSw); go_simp; try with_reducible rfl)
        try simp only [List.getElem_toArray, List.getElem_cons_succ, List.getElem_cons_zero, Act.put, List.setIfInBounds_toArray, List.set_cons_zero, List.set_cons_succ]
        refine wpAnyH_ready (rs := [31]) (by kernel_rfl) (by simp) ?_
        refine AllReadyH.cons rfl (fun K hK => ?_) AllReadyH.nil
        go_simp
        (go_at_call 8; ((with_reducible refine (awake_any _).mono ?_); rintro e W8 ⟨rfl, hb⟩))
        refine hK.out _ _ ?_ (fun hNext => ?_)
        · exact hHeld.below hb
        clear hK K hHeld
        have hHeld := hNext
        clear hNext
        try simp only [List.getElem_toArray, List.getElem_cons_succ, List.getElem_cons_zero, Act.put, List.setIfInBounds_toArray, List.set_cons_zero, List.set_cons_succ]
        refine wpAnyH_take (i := 32) (v := ?_) rfl (by kernel_rfl) (by kernel_rfl) (by kernel_rfl) (fun _ _ _ h => h) (Or.inl ⟨by rfl, ?_⟩) hHeld ?_
        rotate_left
        · (intro wS hSw; (try dsimp only at hSw); go_simp; try with_reducible rfl)
        try simp only [List.getElem_toArray, List.getElem_cons_succ, List.getElem_cons_zero, Act.put, List.setIfInBounds_toArray, List.set_cons_zero, List.set_cons_succ]
        refine wpAnyH_take (i := 33) (v := ?_) rfl (by kernel_rfl) (by kernel_rfl) (by kernel_rfl) (fun _ _ _ h => h) (Or.inl ⟨by rfl, ?_⟩) hHeld ?_
        rotate_left
        · (intro wS hSw; (try dsimp only at hSw); go_simp; try with_reducible rfl)
        try simp only [List.getElem_toArray, List.getElem_cons_succ, List.getElem_cons_zero, Act.put, List.setIfInBounds_toArray, List.set_cons_zero, List.set_cons_succ]
        refine wpAnyH_done (by kernel_rfl) ?_ _
        go_wp2_with (fail)
        go_ret
        exact ⟨rfl, hbw.trans (hHeld.b.mono hbw.size)⟩
      · obtain ⟨k, v, x, y, e⟩ : ∃ k v x y : Int, itemAt L' t = some (1, [k, v, x, y, (l.length : Int), (hi l : Int)]) := by
          cases T4.out with
          | nil => exact absurd rfl hl0
          | node _ x y _ i q h1 h2 h3 => exact ⟨_, _, _, _, h3⟩
        obtain ⟨N0, N1, N2, N3, N4, N5, N6⟩ := node_says e
        have cg := fun W (hb : Below wr.heap.size wr W) => get_yes t W p _ 100 0 L' (hH.a.below hb) N0
        rw [N1, N2, N3, N4, N5, N6] at cg
        have ch := fun W (hh : Held W2 W p 100 0 L') => high_any _ ao c l W (Nat.le_refl _) (HP.out.below hh.b) (by omega)
        have hle := hi_le _ l (Nat.le_refl _)
        obtain ⟨H, eH⟩ : ∃ H, hi l = H := ⟨_, rfl⟩
        rw [eH] at cg ch hle
        have hpos : (0 : Int) < (l.length : Int) := by omega
        have hposd : decide ((0 : Int) < (l.length : Int)) = true := by rw [decide_eq_true_iff]; omega
        have hposN : 0 < l.length := by omega
        have hposNd : decide (0 < l.length) = true := by rw [decide_eq_true_iff]; omega
        have hle' : (H : Int) ≤ (l.length : Int) := by omega
        clear hH e N0 N1 N2 N3 N4 N5 N6 eH
        go_wp2_with (first
          | (go_at_call 19; ((with_reducible refine (used_held HH.out (l.length : Int) (by rw [n4'])).mono ?_); rintro e W8 ⟨rfl, rfl⟩))
          | (go_at_call 11; ((with_reducible refine (cg _ (Below.refl _ _)).mono ?_); clear cg; rintro e W5 ⟨rfl, hb5⟩; have h5 := HH.out.below hb5; clear hb5)))
        have H5 := Lib.hid h5
        clear h5
        go_region_held3 (fun W => W.cell? ⟨W5.heap.size, 0, none⟩ = some (.int .i64 k) ∧ W.cell? ⟨W5.heap.size, 1, none⟩ = some (.int .i64 v) ∧ W.cell? ⟨W5.heap.size, 2, none⟩ = some (.int .i64 x) ∧ W.cell? ⟨W5.heap.size, 3, none⟩ = some (.int .i64 y) ∧ W.cell? ⟨W5.heap.size, 4, none⟩ = some (.int .i64 (l.length : Int)) ∧ W.cell? ⟨W5.heap.size, 5, none⟩ = some (.int .i64 (H : Int)) ∧ Held W2 W p 100 0 L')
          (first | exact one_keep hb (by assumption) | exact one_new H5.out _ rfl | go_keep)
          (first
            | (go_at_call 20; ((with_reducible refine (ch _ (one_held (by assumption))).mono ?_); rintro e W8 ⟨rfl, hb⟩))
            | (go_at_call 8; ((with_reducible refine (awake_any _).mono ?_); rintro e W8 ⟨rfl, hb⟩)))
        go_wp2_with (fail)
        go_ret
        exact ⟨rfl, hbw.trans ((one_held (by assumption)).b.mono hbw.size)⟩

set_option maxRecDepth 100000 in
theorem lifted (os : Os) (started : os.Started) (H : Type) (enc : TypeId × Value → H) :
    ReturnsInHanded {} Try.checked os 6 .any (Rows.nodeSumsSpec.pre6 enc Try.prog Try.f6 Rows.nodeSumsRow.domain false) (Rows.nodeSumsSpec.post enc Try.prog Try.f6 false true false false) := by
  refine returnsInHanded_of_change (C := Try.checked) own started (by kernel_rfl) Try.func6
    (ChangeSpec.witness6 (enc := enc) (C := Try.checked) false ⟨#[], #[.slice none 0 0], []⟩ 8 (by kernel_rfl) (by kernel_rfl) (by kernel_rfl) (by kernel_rfl)) ?_
  intro W base args ds gs before hval0 hW hcnd _
  have hval : ∀ (j : Nat) t v, Try.f6.params[j]? = some t → args[j]? = some v → Value.okWide Try.prog W .any base t v := hval0
  have hW' := hW
  obtain ⟨p, q, hA0, hV, rfl, hfz, hnd⟩ := hW
  have hA : DataW.TrodAll enc Try.prog W 0 (fun _ => true) true Try.f6.params.toList args.toList ds p := hA0
  rw [Try.params6] at hA hval
  obtain ⟨v0, vs0, d0, ds0, p0, q0, hargs, rfl, rfl, h0, r0⟩ := trodAll_cons hA
  obtain ⟨rfl, rfl, rfl⟩ := trodAll_nil r0
  obtain rfl : args = #[v0] := by cases args; simp_all
  obtain ⟨rfl, rfl⟩ := trodVars_none hV
  have k0 := h0
  have lt0 : ∀ x ∈ p0, x.block < W.heap.size := by obtain ⟨m, hm⟩ := k0; exact DataW.trod_lt m _ _ _ hm
  obtain ⟨b0, l0, c0, rfl⟩ := okWide_slice Try.underlying46 (hval 0 46 v0 rfl rfl)
  obtain ⟨a0, cap0, z0, e0, w0⟩ := open_pairs (enc := enc) (w := W) (v := .slice b0 l0 c0) (fuel := h0.choose) (by simpa [Value.cells] using h0.choose_spec)
  rw [e0] at hval k0 h0 hW' hval0 hA0
  clear hA0 hval0
  rw [e0]; refine (walk a0 cap0 z0 W w0).mono fun e W' ⟨he, bel⟩ => ?_
  subst he
  exact ⟨_, rfl, _, _, _, [], _, [], hW', trodAll_mk1 (shut_bool Try.underlying4 _), (trodAll_cons_mk (Below.trod laidOut (by kernel_rfl) (of_decide_eq_true (by kernel_rfl)) k0 bel lt0) trodAll_mk0), rfl, bel.frame _, fun h => by cases h⟩

theorem over : Rows.nodeSumsRow.holds Try.pinned (OpenSpec.ofChange Rows.nodeSumsSpec) :=
  OpenClaim.holds_of_wide 6 Try.f6 rfl rfl rfl rfl rfl rfl rfl ⟨rfl, rfl, rfl, rfl, rfl⟩ rfl rfl rfl rfl rfl (by kernel_rfl) Try.func6 (by kernel_rfl)
    (of_decide_eq_true (by kernel_rfl)) (by unfold Func.isWrapper; first | (rw [if_pos (by decide +kernel)]; kernel_rfl) | (rw [if_neg (by decide +kernel)]; exact ⟨rfl, rfl⟩))
    (fun os started H enc _ => lifted os started H enc)

theorem nodeSumsHolds : Rows.NodeSumsSaid := over
#print axioms nodeSumsHolds
end Go.Proofs.Ytpcfnnegialegaa.nodeSums
