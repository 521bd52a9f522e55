/- Contracts of package node over an arena: oneMore, Get, hung, Make; Leaf, Holds. -/
import Derived.Test.YtmbeaefgakfbnaaAc5
namespace Go.Proofs.Ytmbeaefgakfbnaa
open Go.RowKit
set_option linter.all false

/-- A node: what its record says. -/
structure NodeD where
  key : Int
  val : Int
  left : Int
  right : Int
  size : Int
  high : Int

/-- What a record says as a node. -/
def sayL (l : List It) (id : Int) : NodeD := ⟨valL l id 0, valL l id 1, valL l id 2, valL l id 3, valL l id 4, valL l id 5⟩

/-! ### oneMore -/

def oneM (m n : Int) : Int :=
  if 0 ≤ m ∧ 9223372036854775807 - m ≤ n then 9223372036854775807
  else if m < 0 ∧ n ≤ -9223372036854775808 - m - 1 then -9223372036854775808
  else m + n + 1

theorem oneM_small {m n : Int} (hm : 0 ≤ m) (hm2 : m ≤ 4611686018427387904) (hn : n ≤ 4611686018427387900) : oneM m n = m + n + 1 := by
  unfold oneM; rw [if_neg (by omega), if_neg (by omega)]

set_option maxHeartbeats 1600000 in
theorem oneMore_any (m n : Int) (w : World) (hm1 : -9223372036854775808 ≤ m) (hm2 : m ≤ 9223372036854775807) (hn1 : -9223372036854775808 ≤ n) (hn2 : n ≤ 9223372036854775807) :
    Calls Try.prog 32 #[.int .i64 m, .int .i64 n] w fun e w' => e = .returned (.int .i64 (oneM m n)) ∧ w = w' := by
  unfold oneM
  by_cases h0 : 0 ≤ m
  · have w1 : wrap64 (9223372036854775807 - m) = 9223372036854775807 - m := by unfold wrap64; omega
    by_cases h1 : 9223372036854775807 - m ≤ n
    · rw [if_pos ⟨h0, h1⟩]
      go_enter Try.func32, Try.ntmps32
      go_wp2
      go_ret
      exact ⟨rfl, rfl⟩
    · have h3 : ¬ m < 0 := by omega
      have w2 : wrap64 (m + n) = m + n := by unfold wrap64; omega
      have w3 : wrap64 (m + n + 1) = m + n + 1 := by unfold wrap64; omega
      rw [if_neg (fun h => h1 h.2), if_neg (fun h => h3 h.1)]
      go_enter Try.func32, Try.ntmps32
      go_wp2
      go_ret
      exact ⟨by simp [w2, w3], rfl⟩
  · have h3 : m < 0 := by omega
    have w1 : wrap64 (-9223372036854775808 - m) = -9223372036854775808 - m := by unfold wrap64; omega
    have w2 : wrap64 (-9223372036854775808 - m - 1) = -9223372036854775808 - m - 1 := by unfold wrap64; omega
    by_cases h1 : n ≤ -9223372036854775808 - m - 1
    · rw [if_neg (fun h => h0 h.1), if_pos ⟨h3, h1⟩]
      go_enter Try.func32, Try.ntmps32
      go_wp2
      go_ret
      exact ⟨rfl, rfl⟩
    · have w4 : wrap64 (m + n) = m + n := by unfold wrap64; omega
      have w5 : wrap64 (m + n + 1) = m + n + 1 := by unfold wrap64; omega
      rw [if_neg (fun h => h0 h.1), if_neg (fun h => h1 h.2)]
      go_enter Try.func32, Try.ntmps32
      go_wp2
      go_ret
      exact ⟨by simp [w4, w5], rfl⟩

/-! ### Get -/

/-- A new block of a node's six cells, all 0, whose cells can be written. -/
structure SixZ (W : World) (b : Nat) : Prop where
  z0 : W.cell? ⟨b, 0, none⟩ = some (.int .i64 0)
  z1 : W.cell? ⟨b, 1, none⟩ = some (.int .i64 0)
  z2 : W.cell? ⟨b, 2, none⟩ = some (.int .i64 0)
  z3 : W.cell? ⟨b, 3, none⟩ = some (.int .i64 0)
  z4 : W.cell? ⟨b, 4, none⟩ = some (.int .i64 0)
  z5 : W.cell? ⟨b, 5, none⟩ = some (.int .i64 0)
  f0 : W.frozen? ⟨b, 0, none⟩ = false
  f1 : W.frozen? ⟨b, 1, none⟩ = false
  f2 : W.frozen? ⟨b, 2, none⟩ = false
  f3 : W.frozen? ⟨b, 3, none⟩ = false
  f4 : W.frozen? ⟨b, 4, none⟩ = false
  f5 : W.frozen? ⟨b, 5, none⟩ = false
theorem SixZ.lt {W : World} {b : Nat} (h : SixZ W b) : b < W.heap.size := World.block_lt_of_cell? W _ h.z0
theorem SixZ.keep {W W' : World} {b : Nat} (h : SixZ W b) (hb : Below W.heap.size W W') : SixZ W' b := by
  have hl := h.lt
  have c : ∀ {j v}, W.cell? ⟨b, j, none⟩ = some v → W'.cell? ⟨b, j, none⟩ = some v := fun {j v} hc => (hb.cell (p := ⟨b, j, none⟩) hl).trans hc
  have f : ∀ {j}, W.frozen? ⟨b, j, none⟩ = false → W'.frozen? ⟨b, j, none⟩ = false := fun {j} hf => (World.frozen?_of_block (a := ⟨b, j, none⟩) (hb.block b hl)).trans hf
  exact ⟨c h.z0, c h.z1, c h.z2, c h.z3, c h.z4, c h.z5, f h.f0, f h.f1, f h.f2, f h.f3, f h.f4, f h.f5⟩
theorem SixZ.new (w : World) (t : TypeId) : SixZ (w.alloc (.cells #[.int .i64 0, .int .i64 0, .int .i64 0, .int .i64 0, .int .i64 0, .int .i64 0] t)) w.heap.size := by
  constructor <;> simp

theorem keepc {W : World} {b j k : Nat} {u v : Value} (h : W.cell? ⟨b, j, none⟩ = some v) (hne : j ≠ k) : (W.setCell ⟨b, k, none⟩ u).cell? ⟨b, j, none⟩ = some v :=
  (World.cell?_setCell_other _ _ _ _ (by simpa using hne)).trans h

/-- What the six cells hold when they have been written. -/
theorem SixZ.put {W : World} {b : Nat} (h : SixZ W b) (u0 u1 u2 u3 u4 u5 : Value) :
    ∃ Wf, Wf = ((((((W.setCell ⟨b, 0, none⟩ u0).setCell ⟨b, 1, none⟩ u1).setCell ⟨b, 2, none⟩ u2).setCell ⟨b, 3, none⟩ u3).setCell ⟨b, 4, none⟩ u4).setCell ⟨b, 5, none⟩ u5) ∧
      Wf.cell? ⟨b, 0, none⟩ = some u0 ∧ Wf.cell? ⟨b, 1, none⟩ = some u1 ∧ Wf.cell? ⟨b, 2, none⟩ = some u2 ∧ Wf.cell? ⟨b, 3, none⟩ = some u3 ∧ Wf.cell? ⟨b, 4, none⟩ = some u4 ∧ Wf.cell? ⟨b, 5, none⟩ = some u5 ∧ Below b W Wf := by
  exact ⟨_, rfl, (keepc (keepc (keepc (keepc (keepc (World.cell?_setCell_same _ _ _ h.z0) (by decide)) (by decide)) (by decide)) (by decide)) (by decide)),
    (keepc (keepc (keepc (keepc (World.cell?_setCell_same _ _ _ (keepc h.z1 (by decide))) (by decide)) (by decide)) (by decide)) (by decide)),
    (keepc (keepc (keepc (World.cell?_setCell_same _ _ _ (keepc (keepc h.z2 (by decide)) (by decide))) (by decide)) (by decide)) (by decide)),
    (keepc (keepc (World.cell?_setCell_same _ _ _ (keepc (keepc (keepc h.z3 (by decide)) (by decide)) (by decide))) (by decide)) (by decide)),
    (keepc (World.cell?_setCell_same _ _ _ (keepc (keepc (keepc (keepc h.z4 (by decide)) (by decide)) (by decide)) (by decide))) (by decide)),
    (World.cell?_setCell_same _ _ _ (keepc (keepc (keepc (keepc (keepc h.z5 (by decide)) (by decide)) (by decide)) (by decide)) (by decide))),
    (Below.setCell (Below.setCell (Below.setCell (Below.setCell (Below.setCell (Below.setCell (Below.refl _ _) (Nat.le_refl b) _) (Nat.le_refl b) _) (Nat.le_refl b) _) (Nat.le_refl b) _) (Nat.le_refl b) _) (Nat.le_refl b) _)⟩

theorem get_nil (id : Int) (w : World) :
    Calls Try.prog 26 #[.pointer none, .int .i64 id] w fun e w' => e = .returned (.tuple #[.agg #[.int .i64 0, .int .i64 0, .int .i64 0, .int .i64 0, .int .i64 0, .int .i64 0], .bool false]) ∧ Below w.heap.size w w' := by
  have c := fun W => kind_nil id W
  go_enter Try.func26, Try.ntmps26
  go_wp2_with (go_at_call 38; ((with_reducible refine (c _).mono ?_); rintro e w' ⟨rfl, hb⟩; have zz := (SixZ.new w _).keep hb; obtain ⟨Wf, hWf, r0, r1, r2, r3, r4, r5, rb⟩ := zz.put (.int .i64 0) (.int .i64 0) (.int .i64 0) (.int .i64 0) (.int .i64 0) (.int .i64 0); obtain ⟨z0, z1, z2, z3, z4, z5, f0, f1, f2, f3, f4, f5⟩ := zz))
  rw [← hWf]
  clear hWf z0 z1 z2 z3 z4 z5 f0 f1 f2 f3 f4 f5
  refine bodyPost_ret (v := .tuple #[.agg #[.int .i64 0, .int .i64 0, .int .i64 0, .int .i64 0, .int .i64 0, .int .i64 0], .bool false]) (by simp [results, Try.results26, go_sem, r0, r1, r2, r3, r4, r5]) rfl ⟨rfl, ?_⟩
  exact (((Below.refl _ _).alloc (Nat.le_refl _) _).trans (hb.mono (by simp))).trans rb

set_option maxHeartbeats 1600000 in
theorem get_core (id k v0 v1 v2 v3 v4 v5 : Int) (w : World) (p : Nat)
    (ck : ∀ W, Below w.heap.size w W → Calls Try.prog 38 #[.pointer (some ⟨p, 0, none⟩), .int .i64 id] W fun e w' => e = .returned (.int .i64 k) ∧ Below W.heap.size W w')
    (c0 : ∀ W, Below w.heap.size w W → Calls Try.prog 39 #[.pointer (some ⟨p, 0, none⟩), .int .i64 id, .int .i64 0] W fun e w' => e = .returned (.int .i64 v0) ∧ Below W.heap.size W w')
    (c1 : ∀ W, Below w.heap.size w W → Calls Try.prog 39 #[.pointer (some ⟨p, 0, none⟩), .int .i64 id, .int .i64 1] W fun e w' => e = .returned (.int .i64 v1) ∧ Below W.heap.size W w')
    (c2 : ∀ W, Below w.heap.size w W → Calls Try.prog 39 #[.pointer (some ⟨p, 0, none⟩), .int .i64 id, .int .i64 2] W fun e w' => e = .returned (.int .i64 v2) ∧ Below W.heap.size W w')
    (c3 : ∀ W, Below w.heap.size w W → Calls Try.prog 39 #[.pointer (some ⟨p, 0, none⟩), .int .i64 id, .int .i64 3] W fun e w' => e = .returned (.int .i64 v3) ∧ Below W.heap.size W w')
    (c4 : ∀ W, Below w.heap.size w W → Calls Try.prog 39 #[.pointer (some ⟨p, 0, none⟩), .int .i64 id, .int .i64 4] W fun e w' => e = .returned (.int .i64 v4) ∧ Below W.heap.size W w')
    (c5 : ∀ W, Below w.heap.size w W → Calls Try.prog 39 #[.pointer (some ⟨p, 0, none⟩), .int .i64 id, .int .i64 5] W fun e w' => e = .returned (.int .i64 v5) ∧ Below W.heap.size W w') :
    Calls Try.prog 26 #[.pointer (some ⟨p, 0, none⟩), .int .i64 id] w fun e w' =>
      (if k = 1 then e = .returned (.tuple #[.agg #[.int .i64 v0, .int .i64 v1, .int .i64 v2, .int .i64 v3, .int .i64 v4, .int .i64 v5], .bool true])
       else e = .returned (.tuple #[.agg #[.int .i64 0, .int .i64 0, .int .i64 0, .int .i64 0, .int .i64 0, .int .i64 0], .bool false])) ∧ Below w.heap.size w w' := by
  have ba : ∀ o, Below w.heap.size w (w.alloc o) := fun o => (Below.refl _ _).alloc (Nat.le_refl _) _
  by_cases hk : k = 1
  · subst hk
    simp only [if_pos]
    have C := Lib.hid (And.intro c0 (And.intro c1 (And.intro c2 (And.intro c3 (And.intro c4 c5)))))
    clear c0 c1 c2 c3 c4 c5
    go_enter Try.func26, Try.ntmps26
    go_wp2_with (first
      | (go_at_call 38; ((with_reducible refine (ck _ (ba _)).mono ?_); rintro e w1 ⟨rfl, hb⟩; have b1 := (ba _).trans (hb.mono (ba _).size); have k1 := (SixZ.new w _).keep hb; clear ba hb ck))
      | (go_at_call 39; ((with_reducible refine (C.out.1 _ b1).mono ?_); rintro e w2 ⟨rfl, hb⟩; have b2 := b1.trans (hb.mono b1.size); have k2 := k1.keep hb; clear b1 hb k1))
      | (go_at_call 39; ((with_reducible refine (C.out.2.1 _ b2).mono ?_); rintro e w3 ⟨rfl, hb⟩; have b3 := b2.trans (hb.mono b2.size); have k3 := k2.keep hb; clear b2 hb k2))
      | (go_at_call 39; ((with_reducible refine (C.out.2.2.1 _ b3).mono ?_); rintro e w4 ⟨rfl, hb⟩; have b4 := b3.trans (hb.mono b3.size); have k4 := k3.keep hb; clear b3 hb k3))
      | (go_at_call 39; ((with_reducible refine (C.out.2.2.2.1 _ b4).mono ?_); rintro e w5 ⟨rfl, hb⟩; have b5 := b4.trans (hb.mono b4.size); have k5 := k4.keep hb; clear b4 hb k4))
      | (go_at_call 39; ((with_reducible refine (C.out.2.2.2.2.1 _ b5).mono ?_); rintro e w6 ⟨rfl, hb⟩; have b6 := b5.trans (hb.mono b5.size); have k6 := k5.keep hb; clear b5 hb k5))
      | (go_at_call 39; ((with_reducible refine (C.out.2.2.2.2.2 _ b6).mono ?_); rintro e w7 ⟨rfl, hb⟩; have b7 := b6.trans (hb.mono b6.size); have k7 := k6.keep hb; clear b6 hb k6; obtain ⟨Wf, hWf, r0, r1, r2, r3, r4, r5, rb⟩ := k7.put (.int .i64 v0) (.int .i64 v1) (.int .i64 v2) (.int .i64 v3) (.int .i64 v4) (.int .i64 v5); obtain ⟨z0, z1, z2, z3, z4, z5, f0, f1, f2, f3, f4, f5⟩ := k7)))
    rw [← hWf]
    clear hWf z0 z1 z2 z3 z4 z5 f0 f1 f2 f3 f4 f5
    refine bodyPost_ret (v := .tuple #[.agg #[.int .i64 v0, .int .i64 v1, .int .i64 v2, .int .i64 v3, .int .i64 v4, .int .i64 v5], .bool true]) (by simp [results, Try.results26, go_sem, r0, r1, r2, r3, r4, r5]) rfl ⟨rfl, b7.trans rb⟩
  · have hk' : (k != 1) = true := by simp [hk]
    have HK := Lib.hid hk
    simp only [if_neg hk]
    clear c0 c1 c2 c3 c4 c5 hk
    go_enter Try.func26, Try.ntmps26
    go_wp2_with (first
      | (go_at_call 38; ((with_reducible refine (ck _ (ba _)).mono ?_); rintro e w1 ⟨rfl, hb⟩; have b1 := (ba _).trans (hb.mono (ba _).size); have k1 := (SixZ.new w _).keep hb; clear ba hb ck; obtain ⟨Wf, hWf, r0, r1, r2, r3, r4, r5, rb⟩ := k1.put (.int .i64 0) (.int .i64 0) (.int .i64 0) (.int .i64 0) (.int .i64 0) (.int .i64 0); obtain ⟨z0, z1, z2, z3, z4, z5, f0, f1, f2, f3, f4, f5⟩ := k1)))
    rw [← hWf]
    clear hWf z0 z1 z2 z3 z4 z5 f0 f1 f2 f3 f4 f5
    refine bodyPost_ret (v := .tuple #[.agg #[.int .i64 0, .int .i64 0, .int .i64 0, .int .i64 0, .int .i64 0, .int .i64 0], .bool false]) (by simp [results, Try.results26, go_sem, r0, r1, r2, r3, r4, r5]) rfl ⟨rfl, b1.trans rb⟩

theorem get_any (id : Int) (w : World) (p : Nat) (F : Nat → Prop) (room st : Int) (l : List It) (h : Arena w p F room st l) :
    Calls Try.prog 26 #[.pointer (some ⟨p, 0, none⟩), .int .i64 id] w fun e w' =>
      (if kindL l id = 1 then e = .returned (.tuple #[.agg #[.int .i64 (sayL l id).key, .int .i64 (sayL l id).val, .int .i64 (sayL l id).left, .int .i64 (sayL l id).right, .int .i64 (sayL l id).size, .int .i64 (sayL l id).high], .bool true])
       else e = .returned (.tuple #[.agg #[.int .i64 0, .int .i64 0, .int .i64 0, .int .i64 0, .int .i64 0, .int .i64 0], .bool false])) ∧ Below w.heap.size w w' :=
  have hw : ∀ W, Below w.heap.size w W → Arena W p F room st l := fun W hb => h.below hb
  get_core id (kindL l id) (valL l id 0) (valL l id 1) (valL l id 2) (valL l id 3) (valL l id 4) (valL l id 5) w p
    (fun W hb => kind_any id W p F room st l (hw W hb)) (fun W hb => val_any id 0 W p F room st l (hw W hb)) (fun W hb => val_any id 1 W p F room st l (hw W hb)) (fun W hb => val_any id 2 W p F room st l (hw W hb))
    (fun W hb => val_any id 3 W p F room st l (hw W hb)) (fun W hb => val_any id 4 W p F room st l (hw W hb)) (fun W hb => val_any id 5 W p F room st l (hw W hb))
end Go.Proofs.Ytmbeaefgakfbnaa
