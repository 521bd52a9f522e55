/- Contracts of package node over an arena: oneMore, Get, hung, Make; Leaf, Holds. Contracts of package node: hung, Make; Leaf, Holds. Contracts of package node: Make. Nodes in an arena that a law holds since w0: one-line contracts. -/
import Derived.Test.YtbmlpdkbiipcmaaArG
namespace Go.Proofs.Ytbmlpdkbiipcmaa
open Go.RowKit
set_option linter.all false

/-- A node: what its record says. -/
structure NodeD where
  key : Int
  val : Int
  left : Int
  right : Int
  size : Int
  high : Int

/-- What a record says as a node. -/
def sayL (l : List It) (id : Int) : NodeD := ⟨valL l id 0, valL l id 1, valL l id 2, valL l id 3, valL l id 4, valL l id 5⟩

/-! ### oneMore -/

def oneM (m n : Int) : Int :=
  if 0 ≤ m ∧ 9223372036854775807 - m ≤ n then 9223372036854775807
  else if m < 0 ∧ n ≤ -9223372036854775808 - m - 1 then -9223372036854775808
  else m + n + 1

theorem oneM_small {m n : Int} (hm : 0 ≤ m) (hm2 : m ≤ 4611686018427387904) (hn : n ≤ 4611686018427387900) : oneM m n = m + n + 1 := by
  unfold oneM; rw [if_neg (by omega), if_neg (by omega)]

set_option maxHeartbeats 1600000 in
theorem oneMore_any (m n : Int) (w : World) (hm1 : -9223372036854775808 ≤ m) (hm2 : m ≤ 9223372036854775807) (hn1 : -9223372036854775808 ≤ n) (hn2 : n ≤ 9223372036854775807) :
    Calls Try.prog 36 #[.int .i64 m, .int .i64 n] w fun e w' => e = .returned (.int .i64 (oneM m n)) ∧ w = w' := by
  unfold oneM
  by_cases h0 : 0 ≤ m
  · have w1 : wrap64 (9223372036854775807 - m) = 9223372036854775807 - m := by unfold wrap64; omega
    by_cases h1 : 9223372036854775807 - m ≤ n
    · rw [if_pos ⟨h0, h1⟩]
      go_enter Try.func36, Try.ntmps36
      go_wp2
      go_ret
      exact ⟨rfl, rfl⟩
    · have h3 : ¬ m < 0 := by omega
      have w2 : wrap64 (m + n) = m + n := by unfold wrap64; omega
      have w3 : wrap64 (m + n + 1) = m + n + 1 := by unfold wrap64; omega
      rw [if_neg (fun h => h1 h.2), if_neg (fun h => h3 h.1)]
      go_enter Try.func36, Try.ntmps36
      go_wp2
      go_ret
      exact ⟨by simp [w2, w3], rfl⟩
  · have h3 : m < 0 := by omega
    have w1 : wrap64 (-9223372036854775808 - m) = -9223372036854775808 - m := by unfold wrap64; omega
    have w2 : wrap64 (-9223372036854775808 - m - 1) = -9223372036854775808 - m - 1 := by unfold wrap64; omega
    by_cases h1 : n ≤ -9223372036854775808 - m - 1
    · rw [if_neg (fun h => h0 h.1), if_pos ⟨h3, h1⟩]
      go_enter Try.func36, Try.ntmps36
      go_wp2
      go_ret
      exact ⟨rfl, rfl⟩
    · have w4 : wrap64 (m + n) = m + n := by unfold wrap64; omega
      have w5 : wrap64 (m + n + 1) = m + n + 1 := by unfold wrap64; omega
      rw [if_neg (fun h => h0 h.1), if_neg (fun h => h1 h.2)]
      go_enter Try.func36, Try.ntmps36
      go_wp2
      go_ret
      exact ⟨by simp [w4, w5], rfl⟩

/-! ### Get -/

/-- A new block of a node's six cells, all 0, whose cells can be written. -/
structure SixZ (W : World) (b : Nat) : Prop where
  z0 : W.cell? ⟨b, 0, none⟩ = some (.int .i64 0)
  z1 : W.cell? ⟨b, 1, none⟩ = some (.int .i64 0)
  z2 : W.cell? ⟨b, 2, none⟩ = some (.int .i64 0)
  z3 : W.cell? ⟨b, 3, none⟩ = some (.int .i64 0)
  z4 : W.cell? ⟨b, 4, none⟩ = some (.int .i64 0)
  z5 : W.cell? ⟨b, 5, none⟩ = some (.int .i64 0)
  f0 : W.frozen? ⟨b, 0, none⟩ = false
  f1 : W.frozen? ⟨b, 1, none⟩ = false
  f2 : W.frozen? ⟨b, 2, none⟩ = false
  f3 : W.frozen? ⟨b, 3, none⟩ = false
  f4 : W.frozen? ⟨b, 4, none⟩ = false
  f5 : W.frozen? ⟨b, 5, none⟩ = false
theorem SixZ.lt {W : World} {b : Nat} (h : SixZ W b) : b < W.heap.size := World.block_lt_of_cell? W _ h.z0
theorem SixZ.keep {W W' : World} {b : Nat} (h : SixZ W b) (hb : Below W.heap.size W W') : SixZ W' b := by
  have hl := h.lt
  have c : ∀ {j v}, W.cell? ⟨b, j, none⟩ = some v → W'.cell? ⟨b, j, none⟩ = some v := fun {j v} hc => (hb.cell (p := ⟨b, j, none⟩) hl).trans hc
  have f : ∀ {j}, W.frozen? ⟨b, j, none⟩ = false → W'.frozen? ⟨b, j, none⟩ = false := fun {j} hf => (World.frozen?_of_block (a := ⟨b, j, none⟩) (hb.block b hl)).trans hf
  exact ⟨c h.z0, c h.z1, c h.z2, c h.z3, c h.z4, c h.z5, f h.f0, f h.f1, f h.f2, f h.f3, f h.f4, f h.f5⟩
theorem SixZ.new (w : World) (t : TypeId) : SixZ (w.alloc (.cells #[.int .i64 0, .int .i64 0, .int .i64 0, .int .i64 0, .int .i64 0, .int .i64 0] t)) w.heap.size := by
  constructor <;> simp

theorem keepc {W : World} {b j k : Nat} {u v : Value} (h : W.cell? ⟨b, j, none⟩ = some v) (hne : j ≠ k) : (W.setCell ⟨b, k, none⟩ u).cell? ⟨b, j, none⟩ = some v :=
  (World.cell?_setCell_other _ _ _ _ (by simpa using hne)).trans h

/-- What the six cells hold when they have been written. -/
theorem SixZ.put {W : World} {b : Nat} (h : SixZ W b) (u0 u1 u2 u3 u4 u5 : Value) :
    ∃ Wf, Wf = ((((((W.setCell ⟨b, 0, none⟩ u0).setCell ⟨b, 1, none⟩ u1).setCell ⟨b, 2, none⟩ u2).setCell ⟨b, 3, none⟩ u3).setCell ⟨b, 4, none⟩ u4).setCell ⟨b, 5, none⟩ u5) ∧
      Wf.cell? ⟨b, 0, none⟩ = some u0 ∧ Wf.cell? ⟨b, 1, none⟩ = some u1 ∧ Wf.cell? ⟨b, 2, none⟩ = some u2 ∧ Wf.cell? ⟨b, 3, none⟩ = some u3 ∧ Wf.cell? ⟨b, 4, none⟩ = some u4 ∧ Wf.cell? ⟨b, 5, none⟩ = some u5 ∧ Below b W Wf := by
  exact ⟨_, rfl, (keepc (keepc (keepc (keepc (keepc (World.cell?_setCell_same _ _ _ h.z0) (by decide)) (by decide)) (by decide)) (by decide)) (by decide)),
    (keepc (keepc (keepc (keepc (World.cell?_setCell_same _ _ _ (keepc h.z1 (by decide))) (by decide)) (by decide)) (by decide)) (by decide)),
    (keepc (keepc (keepc (World.cell?_setCell_same _ _ _ (keepc (keepc h.z2 (by decide)) (by decide))) (by decide)) (by decide)) (by decide)),
    (keepc (keepc (World.cell?_setCell_same _ _ _ (keepc (keepc (keepc h.z3 (by decide)) (by decide)) (by decide))) (by decide)) (by decide)),
    (keepc (World.cell?_setCell_same _ _ _ (keepc (keepc (keepc (keepc h.z4 (by decide)) (by decide)) (by decide)) (by decide))) (by decide)),
    (World.cell?_setCell_same _ _ _ (keepc (keepc (keepc (keepc (keepc h.z5 (by decide)) (by decide)) (by decide)) (by decide)) (by decide))),
    (Below.setCell (Below.setCell (Below.setCell (Below.setCell (Below.setCell (Below.setCell (Below.refl _ _) (Nat.le_refl b) _) (Nat.le_refl b) _) (Nat.le_refl b) _) (Nat.le_refl b) _) (Nat.le_refl b) _) (Nat.le_refl b) _)⟩

theorem get_nil (id : Int) (w : World) :
    Calls Try.prog 17 #[.pointer none, .int .i64 id] w fun e w' => e = .returned (.tuple #[.agg #[.int .i64 0, .int .i64 0, .int .i64 0, .int .i64 0, .int .i64 0, .int .i64 0], .bool false]) ∧ Below w.heap.size w w' := by
  have c := fun W => kind_nil id W
  go_enter Try.func17, Try.ntmps17
  go_wp2_with (go_at_call 38; ((with_reducible refine (c _).mono ?_); rintro e w' ⟨rfl, hb⟩; have zz := (SixZ.new w _).keep hb; obtain ⟨Wf, hWf, r0, r1, r2, r3, r4, r5, rb⟩ := zz.put (.int .i64 0) (.int .i64 0) (.int .i64 0) (.int .i64 0) (.int .i64 0) (.int .i64 0); obtain ⟨z0, z1, z2, z3, z4, z5, f0, f1, f2, f3, f4, f5⟩ := zz))
  rw [← hWf]
  clear hWf z0 z1 z2 z3 z4 z5 f0 f1 f2 f3 f4 f5
  refine bodyPost_ret (v := .tuple #[.agg #[.int .i64 0, .int .i64 0, .int .i64 0, .int .i64 0, .int .i64 0, .int .i64 0], .bool false]) (by simp [results, Try.results17, go_sem, r0, r1, r2, r3, r4, r5]) rfl ⟨rfl, ?_⟩
  exact (((Below.refl _ _).alloc (Nat.le_refl _) _).trans (hb.mono (by simp))).trans rb

set_option maxHeartbeats 1600000 in
theorem get_core (id k v0 v1 v2 v3 v4 v5 : Int) (w : World) (p : Nat)
    (ck : ∀ W, Below w.heap.size w W → Calls Try.prog 38 #[.pointer (some ⟨p, 0, none⟩), .int .i64 id] W fun e w' => e = .returned (.int .i64 k) ∧ Below W.heap.size W w')
    (c0 : ∀ W, Below w.heap.size w W → Calls Try.prog 39 #[.pointer (some ⟨p, 0, none⟩), .int .i64 id, .int .i64 0] W fun e w' => e = .returned (.int .i64 v0) ∧ Below W.heap.size W w')
    (c1 : ∀ W, Below w.heap.size w W → Calls Try.prog 39 #[.pointer (some ⟨p, 0, none⟩), .int .i64 id, .int .i64 1] W fun e w' => e = .returned (.int .i64 v1) ∧ Below W.heap.size W w')
    (c2 : ∀ W, Below w.heap.size w W → Calls Try.prog 39 #[.pointer (some ⟨p, 0, none⟩), .int .i64 id, .int .i64 2] W fun e w' => e = .returned (.int .i64 v2) ∧ Below W.heap.size W w')
    (c3 : ∀ W, Below w.heap.size w W → Calls Try.prog 39 #[.pointer (some ⟨p, 0, none⟩), .int .i64 id, .int .i64 3] W fun e w' => e = .returned (.int .i64 v3) ∧ Below W.heap.size W w')
    (c4 : ∀ W, Below w.heap.size w W → Calls Try.prog 39 #[.pointer (some ⟨p, 0, none⟩), .int .i64 id, .int .i64 4] W fun e w' => e = .returned (.int .i64 v4) ∧ Below W.heap.size W w')
    (c5 : ∀ W, Below w.heap.size w W → Calls Try.prog 39 #[.pointer (some ⟨p, 0, none⟩), .int .i64 id, .int .i64 5] W fun e w' => e = .returned (.int .i64 v5) ∧ Below W.heap.size W w') :
    Calls Try.prog 17 #[.pointer (some ⟨p, 0, none⟩), .int .i64 id] w fun e w' =>
      (if k = 1 then e = .returned (.tuple #[.agg #[.int .i64 v0, .int .i64 v1, .int .i64 v2, .int .i64 v3, .int .i64 v4, .int .i64 v5], .bool true])
       else e = .returned (.tuple #[.agg #[.int .i64 0, .int .i64 0, .int .i64 0, .int .i64 0, .int .i64 0, .int .i64 0], .bool false])) ∧ Below w.heap.size w w' := by
  have ba : ∀ o, Below w.heap.size w (w.alloc o) := fun o => (Below.refl _ _).alloc (Nat.le_refl _) _
  by_cases hk : k = 1
  · subst hk
    simp only [if_pos]
    have C := Lib.hid (And.intro c0 (And.intro c1 (And.intro c2 (And.intro c3 (And.intro c4 c5)))))
    clear c0 c1 c2 c3 c4 c5
    go_enter Try.func17, Try.ntmps17
    go_wp2_with (first
      | (go_at_call 38; ((with_reducible refine (ck _ (ba _)).mono ?_); rintro e w1 ⟨rfl, hb⟩; have b1 := (ba _).trans (hb.mono (ba _).size); have k1 := (SixZ.new w _).keep hb; clear ba hb ck))
      | (go_at_call 39; ((with_reducible refine (C.out.1 _ b1).mono ?_); rintro e w2 ⟨rfl, hb⟩; have b2 := b1.trans (hb.mono b1.size); have k2 := k1.keep hb; clear b1 hb k1))
      | (go_at_call 39; ((with_reducible refine (C.out.2.1 _ b2).mono ?_); rintro e w3 ⟨rfl, hb⟩; have b3 := b2.trans (hb.mono b2.size); have k3 := k2.keep hb; clear b2 hb k2))
      | (go_at_call 39; ((with_reducible refine (C.out.2.2.1 _ b3).mono ?_); rintro e w4 ⟨rfl, hb⟩; have b4 := b3.trans (hb.mono b3.size); have k4 := k3.keep hb; clear b3 hb k3))
      | (go_at_call 39; ((with_reducible refine (C.out.2.2.2.1 _ b4).mono ?_); rintro e w5 ⟨rfl, hb⟩; have b5 := b4.trans (hb.mono b4.size); have k5 := k4.keep hb; clear b4 hb k4))
      | (go_at_call 39; ((with_reducible refine (C.out.2.2.2.2.1 _ b5).mono ?_); rintro e w6 ⟨rfl, hb⟩; have b6 := b5.trans (hb.mono b5.size); have k6 := k5.keep hb; clear b5 hb k5))
      | (go_at_call 39; ((with_reducible refine (C.out.2.2.2.2.2 _ b6).mono ?_); rintro e w7 ⟨rfl, hb⟩; have b7 := b6.trans (hb.mono b6.size); have k7 := k6.keep hb; clear b6 hb k6; obtain ⟨Wf, hWf, r0, r1, r2, r3, r4, r5, rb⟩ := k7.put (.int .i64 v0) (.int .i64 v1) (.int .i64 v2) (.int .i64 v3) (.int .i64 v4) (.int .i64 v5); obtain ⟨z0, z1, z2, z3, z4, z5, f0, f1, f2, f3, f4, f5⟩ := k7)))
    rw [← hWf]
    clear hWf z0 z1 z2 z3 z4 z5 f0 f1 f2 f3 f4 f5
    refine bodyPost_ret (v := .tuple #[.agg #[.int .i64 v0, .int .i64 v1, .int .i64 v2, .int .i64 v3, .int .i64 v4, .int .i64 v5], .bool true]) (by simp [results, Try.results17, go_sem, r0, r1, r2, r3, r4, r5]) rfl ⟨rfl, b7.trans rb⟩
  · have hk' : (k != 1) = true := by simp [hk]
    have HK := Lib.hid hk
    simp only [if_neg hk]
    clear c0 c1 c2 c3 c4 c5 hk
    go_enter Try.func17, Try.ntmps17
    go_wp2_with (first
      | (go_at_call 38; ((with_reducible refine (ck _ (ba _)).mono ?_); rintro e w1 ⟨rfl, hb⟩; have b1 := (ba _).trans (hb.mono (ba _).size); have k1 := (SixZ.new w _).keep hb; clear ba hb ck; obtain ⟨Wf, hWf, r0, r1, r2, r3, r4, r5, rb⟩ := k1.put (.int .i64 0) (.int .i64 0) (.int .i64 0) (.int .i64 0) (.int .i64 0) (.int .i64 0); obtain ⟨z0, z1, z2, z3, z4, z5, f0, f1, f2, f3, f4, f5⟩ := k1)))
    rw [← hWf]
    clear hWf z0 z1 z2 z3 z4 z5 f0 f1 f2 f3 f4 f5
    refine bodyPost_ret (v := .tuple #[.agg #[.int .i64 0, .int .i64 0, .int .i64 0, .int .i64 0, .int .i64 0, .int .i64 0], .bool false]) (by simp [results, Try.results17, go_sem, r0, r1, r2, r3, r4, r5]) rfl ⟨rfl, b1.trans rb⟩

theorem get_any (id : Int) (w : World) (p : Nat) (F : Nat → Prop) (room st : Int) (l : List It) (h : Arena w p F room st l) :
    Calls Try.prog 17 #[.pointer (some ⟨p, 0, none⟩), .int .i64 id] w fun e w' =>
      (if kindL l id = 1 then e = .returned (.tuple #[.agg #[.int .i64 (sayL l id).key, .int .i64 (sayL l id).val, .int .i64 (sayL l id).left, .int .i64 (sayL l id).right, .int .i64 (sayL l id).size, .int .i64 (sayL l id).high], .bool true])
       else e = .returned (.tuple #[.agg #[.int .i64 0, .int .i64 0, .int .i64 0, .int .i64 0, .int .i64 0, .int .i64 0], .bool false])) ∧ Below w.heap.size w w' :=
  have hw : ∀ W, Below w.heap.size w W → Arena W p F room st l := fun W hb => h.below hb
  get_core id (kindL l id) (valL l id 0) (valL l id 1) (valL l id 2) (valL l id 3) (valL l id 4) (valL l id 5) w p
    (fun W hb => kind_any id W p F room st l (hw W hb)) (fun W hb => val_any id 0 W p F room st l (hw W hb)) (fun W hb => val_any id 1 W p F room st l (hw W hb)) (fun W hb => val_any id 2 W p F room st l (hw W hb))
    (fun W hb => val_any id 3 W p F room st l (hw W hb)) (fun W hb => val_any id 4 W p F room st l (hw W hb)) (fun W hb => val_any id 5 W p F room st l (hw W hb))
end Go.Proofs.Ytbmlpdkbiipcmaa

namespace Go.Proofs.Ytbmlpdkbiipcmaa
open Go.RowKit
set_option linter.all false

section
variable (id : Int) (w : World) (p : Nat) (F : Nat → Prop) (room st : Int) (l : List It)

theorem get_yes (h : Arena w p F room st l) (hk : kindL l id = 1) :
    Calls Try.prog 17 #[.pointer (some ⟨p, 0, none⟩), .int .i64 id] w fun e w' =>
      e = .returned (.tuple #[.agg #[.int .i64 (valL l id 0), .int .i64 (valL l id 1), .int .i64 (valL l id 2), .int .i64 (valL l id 3), .int .i64 (valL l id 4), .int .i64 (valL l id 5)], .bool true]) ∧ Below w.heap.size w w' :=
  (get_any id w p F room st l h).mono fun e w' hh => ⟨by have := hh.1; rw [if_pos hk] at this; exact this, hh.2⟩
theorem get_no (h : Arena w p F room st l) (hk : kindL l id ≠ 1) :
    Calls Try.prog 17 #[.pointer (some ⟨p, 0, none⟩), .int .i64 id] w fun e w' =>
      e = .returned (.tuple #[.agg #[.int .i64 0, .int .i64 0, .int .i64 0, .int .i64 0, .int .i64 0, .int .i64 0], .bool false]) ∧ Below w.heap.size w w' :=
  (get_any id w p F room st l h).mono fun e w' hh => ⟨by have := hh.1; rw [if_neg hk] at this; exact this, hh.2⟩
end

/-- What may hang on the next node. -/
def HungOk (l : List It) (t : Int) : Prop := t = 0 ∨ kindL l t = 1
def sizeL (l : List It) (t : Int) : Int := if t = 0 then 0 else valL l t 4
def highL (l : List It) (t : Int) : Int := if t = 0 then 0 else valL l t 5

theorem kindL_zero (l : List It) (t : Int) (h : t < 1) : kindL l t = 0 := by unfold kindL itemAt; rw [if_pos h]; rfl

/-- hung of 0. -/
theorem hung_zero (ao : Option Addr) (w : World) :
    Calls Try.prog 35 #[.pointer ao, .int .i64 0] w fun e w' => e = .returned (.tuple #[.agg #[.int .i64 0, .int .i64 0, .int .i64 0, .int .i64 0, .int .i64 0, .int .i64 0], .bool true]) ∧ Below w.heap.size w w' := by
  go_enter Try.func35, Try.ntmps35
  go_wp2
  refine bodyPost_ret (v := .tuple #[.agg #[.int .i64 0, .int .i64 0, .int .i64 0, .int .i64 0, .int .i64 0, .int .i64 0], .bool true]) (by simp [results, Try.results35, go_sem]) rfl ⟨rfl, ?_⟩
  exact (Below.refl _ _).alloc (Nat.le_refl _) _

theorem hung_core (ao : Option Addr) (t v0 v1 v2 v3 v4 v5 : Int) (b : Bool) (w : World) (ht : t ≠ 0)
    (cg : ∀ W, Below w.heap.size w W → Calls Try.prog 17 #[.pointer ao, .int .i64 t] W fun e w' => e = .returned (.tuple #[.agg #[.int .i64 v0, .int .i64 v1, .int .i64 v2, .int .i64 v3, .int .i64 v4, .int .i64 v5], .bool b]) ∧ Below W.heap.size W w') :
    Calls Try.prog 35 #[.pointer ao, .int .i64 t] w fun e w' => e = .returned (.tuple #[.agg #[.int .i64 v0, .int .i64 v1, .int .i64 v2, .int .i64 v3, .int .i64 v4, .int .i64 v5], .bool b]) ∧ Below w.heap.size w w' := by
  have ht' : (t == 0) = false := by simp [ht]
  have ba : ∀ o, Below w.heap.size w (w.alloc o) := fun o => (Below.refl _ _).alloc (Nat.le_refl _) _
  clear ht
  go_enter Try.func35, Try.ntmps35
  go_wp2_with (go_at_call 17; ((with_reducible refine (cg _ (ba _)).mono ?_); rintro e w' ⟨rfl, hb⟩; have zz := (SixZ.new w _).keep hb; obtain ⟨Wf, hWf, r0, r1, r2, r3, r4, r5, rb⟩ := zz.put (.int .i64 v0) (.int .i64 v1) (.int .i64 v2) (.int .i64 v3) (.int .i64 v4) (.int .i64 v5); obtain ⟨z0, z1, z2, z3, z4, z5, f0, f1, f2, f3, f4, f5⟩ := zz))
  rw [← hWf]
  clear hWf z0 z1 z2 z3 z4 z5 f0 f1 f2 f3 f4 f5
  refine bodyPost_ret (v := .tuple #[.agg #[.int .i64 v0, .int .i64 v1, .int .i64 v2, .int .i64 v3, .int .i64 v4, .int .i64 v5], .bool b]) (by simp [results, Try.results35, go_sem, r0, r1, r2, r3, r4, r5]) rfl ⟨rfl, ?_⟩
  exact ((ba _).trans (hb.mono (ba _).size)).trans rb

theorem hung_ok (t : Int) (w : World) (p : Nat) (F : Nat → Prop) (room st : Int) (l : List It) (h : Arena w p F room st l) (hk : HungOk l t) :
    Calls Try.prog 35 #[.pointer (some ⟨p, 0, none⟩), .int .i64 t] w fun e w' =>
      (∃ v0 v1 v2 v3 : Int, e = .returned (.tuple #[.agg #[.int .i64 v0, .int .i64 v1, .int .i64 v2, .int .i64 v3, .int .i64 (sizeL l t), .int .i64 (highL l t)], .bool true])) ∧ Below w.heap.size w w' := by
  by_cases ht : t = 0
  · subst ht
    exact (hung_zero _ w).mono fun e w' hh => ⟨⟨0, 0, 0, 0, hh.1⟩, hh.2⟩
  · have hk : kindL l t = 1 := hk.resolve_left ht
    unfold sizeL highL
    rw [if_neg ht, if_neg ht]
    exact (hung_core _ t _ _ _ _ _ _ true w ht (fun W hb => get_yes t W p F room st l (h.below hb) hk)).mono fun e w' hh => ⟨⟨_, _, _, _, hh.1⟩, hh.2⟩
theorem hung_no (t : Int) (w : World) (p : Nat) (F : Nat → Prop) (room st : Int) (l : List It) (h : Arena w p F room st l) (hk : ¬ HungOk l t) :
    Calls Try.prog 35 #[.pointer (some ⟨p, 0, none⟩), .int .i64 t] w fun e w' =>
      (∃ v0 v1 v2 v3 v4 v5 : Int, e = .returned (.tuple #[.agg #[.int .i64 v0, .int .i64 v1, .int .i64 v2, .int .i64 v3, .int .i64 v4, .int .i64 v5], .bool false])) ∧ Below w.heap.size w w' :=
  (hung_core _ t _ _ _ _ _ _ false w (fun e => hk (.inl e)) (fun W hb => get_no t W p F room st l (h.below hb) (fun e => hk (.inr e)))).mono fun e w' hh => ⟨⟨_, _, _, _, _, _, hh.1⟩, hh.2⟩
theorem hung_nil (t : Int) (w : World) :
    Calls Try.prog 35 #[.pointer none, .int .i64 t] w fun e w' =>
      (∃ (v0 v1 v2 v3 v4 v5 : Int) (b : Bool), e = .returned (.tuple #[.agg #[.int .i64 v0, .int .i64 v1, .int .i64 v2, .int .i64 v3, .int .i64 v4, .int .i64 v5], .bool b])) ∧ Below w.heap.size w w' := by
  by_cases ht : t = 0
  · subst ht
    exact (hung_zero _ w).mono fun e w' hh => ⟨⟨0, 0, 0, 0, 0, 0, true, hh.1⟩, hh.2⟩
  · exact (hung_core _ t _ _ _ _ _ _ false w ht (fun W hb => get_nil t W)).mono fun e w' hh => ⟨⟨_, _, _, _, _, _, _, hh.1⟩, hh.2⟩

/-! ### Leaf, Holds -/

theorem leaf_any (v0 v1 v2 v3 v4 v5 : Int) (w : World) :
    Calls Try.prog 18 #[.agg #[.int .i64 v0, .int .i64 v1, .int .i64 v2, .int .i64 v3, .int .i64 v4, .int .i64 v5]] w fun e w' => e = .returned (.bool (v2 == 0 && v3 == 0)) ∧ Below w.heap.size w w' := by
  cases h2 : v2 == 0
  · go_enter Try.func18, Try.ntmps18
    go_wp2
    go_ret
    exact ⟨rfl, (Below.refl _ _).alloc (Nat.le_refl _) _⟩
  · go_enter Try.func18, Try.ntmps18
    go_wp2
    go_ret
    exact ⟨rfl, (Below.refl _ _).alloc (Nat.le_refl _) _⟩
theorem holds_any (v0 v1 v2 v3 v4 v5 k : Int) (w : World) :
    Calls Try.prog 54 #[.agg #[.int .i64 v0, .int .i64 v1, .int .i64 v2, .int .i64 v3, .int .i64 v4, .int .i64 v5], .int .i64 k] w fun e w' => e = .returned (.bool (v0 == k)) ∧ Below w.heap.size w w' := by
  go_enter Try.func54, Try.ntmps54
  go_wp2
  go_ret
  exact ⟨rfl, (Below.refl _ _).alloc (Nat.le_refl _) _⟩

end Go.Proofs.Ytbmlpdkbiipcmaa

namespace Go.Proofs.Ytbmlpdkbiipcmaa
open Go.RowKit
set_option linter.all false

/-- A cell, behind a new block and a call. -/
theorem cell_past {W W' : World} {o : Obj} {q : Addr} {v : Value} (hb : Below (W.alloc o).heap.size (W.alloc o) W') (hc : W.cell? q = some v) : W'.cell? q = some v := by
  have hA : Below W.heap.size W (W.alloc o) := (Below.refl _ _).alloc (Nat.le_refl _) _
  exact ((hA.trans (hb.mono hA.size)).cell (p := q) (World.block_lt_of_cell? W q hc)).trans hc
/-- A cell of the new block, behind the call. -/
theorem cell_new {W W' : World} {cs : Array Value} {t : TypeId} {v : Value} (hb : Below (W.alloc (.cells cs t)).heap.size (W.alloc (.cells cs t)) W') (j : Nat) (hj : cs[j]? = some v) : W'.cell? ⟨W.heap.size, j, none⟩ = some v :=
  (hb.cell (p := ⟨W.heap.size, j, none⟩) (by simp)).trans (by rw [World.cell?_alloc_new]; exact hj)
theorem cell_alloc {W : World} {q : Addr} {v : Value} (h : W.cell? q = some v) (o : Obj) : (W.alloc o).cell? q = some v :=
  (((Below.refl W.heap.size W).alloc (Nat.le_refl _) o).cell (p := q) (World.block_lt_of_cell? W q h)).trans h
theorem below_past {w W W' : World} {o : Obj} (h : Below w.heap.size w W) (hb : Below (W.alloc o).heap.size (W.alloc o) W') : Below w.heap.size w W' := by
  have hA : Below W.heap.size W (W.alloc o) := (Below.refl _ _).alloc (Nat.le_refl _) _
  exact h.trans ((hA.trans (hb.mono hA.size)).mono h.size)

/-- What a node's record holds. -/
def nodeIt (k v lt rt s h : Int) : It := (1, [k, v, lt, rt, s, h])

theorem Made.since {w W w' : World} {p : Nat} {F F' : Nat → Prop} {room st : Int} {l : List It} {x : It} {e : Ending} (m : Made W p F' room st l x e w') (b : Below w.heap.size w W) (hF : ∀ k, F' k → F k) : Made w p F room st l x e w' := by
  obtain ⟨he, hA, hO⟩ := m
  refine ⟨he, hA.mono (fun k hk hlt => ?_), Only.trans (S := F) (Only.ofBelow b) hO (fun i hi _ => hF i hi)⟩
  rcases hk with hk | hk
  · exact .inl (hF k hk)
  · exact .inr ⟨Nat.le_trans b.size hk.1, hk.2⟩

/-- The arena's Make of six values that the caller writes out, in a world since w. -/
theorem make_six {w W : World} (b : Below w.heap.size w W) (k v lt rt s hh : Int) (g p : Nat) (F : Nat → Prop) (room st : Int) (l : List It) (hA : Arena w p F room st l) (hr : (l.length : Int) < room) (hg : g = W.heap.size) :
    Calls Try.prog 19 #[.pointer (some ⟨p, 0, none⟩), .int .i64 1, .slice (some ⟨g, 0, none⟩) 6 6] (W.alloc (.cells #[.int .i64 k, .int .i64 v, .int .i64 lt, .int .i64 rt, .int .i64 s, .int .i64 hh] 3)) (Made w p F room st l (1, [k, v, lt, rt, s, hh])) := by
  subst hg
  refine (make_ok 1 [k, v, lt, rt, s, hh] _ _ p _ room st l ((hA.below b).fresh _) (by omega) (by simp) hr (.inr ⟨⟨W.heap.size, 0, none⟩, 6, rfl, .inr (fun hh => hh.2 rfl), by simp [maxLen], fun j hj => ?_⟩)).mono fun e w' m => m.since (b.alloc b.size _) (fun k hk => hk.1)
  rw [add_lit, Nat.zero_add, World.cell?_alloc_new]
  have hj : j < 6 := hj
  match j, hj with
  | 0, _ => rfl
  | 1, _ => rfl
  | 2, _ => rfl
  | 3, _ => rfl
  | 4, _ => rfl
  | 5, _ => rfl

set_option maxHeartbeats 3200000 in
theorem nmake_core (k v lt rt sl sr hl hr s hh n er : Int) (R : World → Prop) (w : World) (p : Nat)
    (cl : ∀ W, Below w.heap.size w W → Calls Try.prog 35 #[.pointer (some ⟨p, 0, none⟩), .int .i64 lt] W fun e w' =>
      (∃ v0 v1 v2 v3 : Int, e = .returned (.tuple #[.agg #[.int .i64 v0, .int .i64 v1, .int .i64 v2, .int .i64 v3, .int .i64 sl, .int .i64 hl], .bool true])) ∧ Below W.heap.size W w')
    (cr : ∀ W, Below w.heap.size w W → Calls Try.prog 35 #[.pointer (some ⟨p, 0, none⟩), .int .i64 rt] W fun e w' =>
      (∃ v0 v1 v2 v3 : Int, e = .returned (.tuple #[.agg #[.int .i64 v0, .int .i64 v1, .int .i64 v2, .int .i64 v3, .int .i64 sr, .int .i64 hr], .bool true])) ∧ Below W.heap.size W w')
    (c1 : ∀ W, Calls Try.prog 36 #[.int .i64 sl, .int .i64 sr] W fun e w' => e = .returned (.int .i64 s) ∧ W = w')
    (c2 : hr ≤ hl → ∀ W, Calls Try.prog 36 #[.int .i64 hl, .int .i64 0] W fun e w' => e = .returned (.int .i64 hh) ∧ W = w')
    (c3 : hl < hr → ∀ W, Calls Try.prog 36 #[.int .i64 hr, .int .i64 0] W fun e w' => e = .returned (.int .i64 hh) ∧ W = w')
    (cm : ∀ W g, Below w.heap.size w W → g = W.heap.size → Calls Try.prog 19 #[.pointer (some ⟨p, 0, none⟩), .int .i64 1, .slice (some ⟨g, 0, none⟩) 6 6]
      (W.alloc (.cells #[.int .i64 k, .int .i64 v, .int .i64 lt, .int .i64 rt, .int .i64 s, .int .i64 hh] 3)) fun e w' => e = .returned (.tuple #[.int .i64 n, .int .i64 er]) ∧ R w') :
    Calls Try.prog 14 #[.pointer (some ⟨p, 0, none⟩), .agg #[.int .i64 k, .int .i64 v], .int .i64 lt, .int .i64 rt] w fun e w' => e = .returned (.tuple #[.int .i64 n, .int .i64 er]) ∧ R w' := by
  have ba : ∀ o, Below w.heap.size w (w.alloc o) := fun o => (Below.refl _ _).alloc (Nat.le_refl _) _
  go_enter Try.func14, Try.ntmps14
  go_wp2_with (first
    | (go_at_call_of 35 (Value.int .i64 lt); ((with_reducible refine (cl _ (ba _)).mono ?_); rintro e w1 ⟨⟨v0, v1, v2, v3, rfl⟩, hb⟩; have b1 := below_past (Below.refl _ _) hb; have x0 := cell_new hb 0 rfl; have x1 := cell_new hb 1 rfl; clear cl hb))
    | (go_at_call_of 35 (Value.int .i64 rt); ((with_reducible refine (cr _ (b1.alloc b1.size _)).mono ?_); rintro e w2 ⟨⟨u0, u1, u2, u3, rfl⟩, hb⟩; have b2 := below_past b1 hb; have y0 := cell_alloc (cell_past hb x0) (.cells #[.int .i64 u0, .int .i64 u1, .int .i64 u2, .int .i64 u3, .int .i64 sr, .int .i64 hr] 41); have y1 := cell_alloc (cell_past hb x1) (.cells #[.int .i64 u0, .int .i64 u1, .int .i64 u2, .int .i64 u3, .int .i64 sr, .int .i64 hr] 41); have y4 := cell_alloc (cell_new hb 4 rfl) (.cells #[.int .i64 u0, .int .i64 u1, .int .i64 u2, .int .i64 u3, .int .i64 sr, .int .i64 hr] 41); have y5 := cell_alloc (cell_new hb 5 rfl) (.cells #[.int .i64 u0, .int .i64 u1, .int .i64 u2, .int .i64 u3, .int .i64 sr, .int .i64 hr] 41); clear cr hb x0 x1 b1))
    | (go_at_call 36; ((with_reducible refine (c1 _).mono ?_); rintro e w3 ⟨rfl, rfl⟩; clear c1))
    | (go_at_call 36; ((with_reducible refine (c2 (by assumption) _).mono ?_); rintro e w4 ⟨rfl, rfl⟩; clear c2 c3))
    | (go_at_call 36; ((with_reducible refine (c3 (by assumption) _).mono ?_); rintro e w4 ⟨rfl, rfl⟩; clear c2 c3))
    | (go_at_call 19; ((with_reducible refine (cm _ _ (b2.alloc b2.size _) (by simp)).mono ?_); rintro e w5 ⟨rfl, hm⟩)))
  all_goals go_ret2
  all_goals exact ⟨rfl, hm⟩

/-- What may hang, its size and height as numbers that do not go round. -/
structure Hung (l : List It) (t s h : Int) : Prop where
  ok : HungOk l t
  size : sizeL l t = s
  high : highL l t = h
  s0 : -9223372036854775808 ≤ s
  s1 : s ≤ 9223372036854775807
  h0 : -9223372036854775808 ≤ h
  h1 : h ≤ 9223372036854775807

section
variable {l : List It} {lt rt sl hl sr hr : Int} {w : World} {p : Nat} {F : Nat → Prop} {room st : Int}

theorem nmake_any (k v n er : Int) (R : World → Prop) (hA : Arena w p F room st l) (h1 : Hung l lt sl hl) (h2 : Hung l rt sr hr)
    (cm : ∀ W g, Below w.heap.size w W → g = W.heap.size → Calls Try.prog 19 #[.pointer (some ⟨p, 0, none⟩), .int .i64 1, .slice (some ⟨g, 0, none⟩) 6 6]
      (W.alloc (.cells #[.int .i64 k, .int .i64 v, .int .i64 lt, .int .i64 rt, .int .i64 (oneM sl sr), .int .i64 (oneM (max hl hr) 0)] 3)) fun e w' => e = .returned (.tuple #[.int .i64 n, .int .i64 er]) ∧ R w') :
    Calls Try.prog 14 #[.pointer (some ⟨p, 0, none⟩), .agg #[.int .i64 k, .int .i64 v], .int .i64 lt, .int .i64 rt] w fun e w' => e = .returned (.tuple #[.int .i64 n, .int .i64 er]) ∧ R w' := by
  have a1 := h1.h0; have a2 := h1.h1; have a3 := h2.h0; have a4 := h2.h1
  refine nmake_core k v lt rt sl sr hl hr (oneM sl sr) (oneM (max hl hr) 0) n er R w p
    (fun W hb => by have := hung_ok lt W p F room st l (hA.below hb) h1.ok; rw [h1.size, h1.high] at this; exact this)
    (fun W hb => by have := hung_ok rt W p F room st l (hA.below hb) h2.ok; rw [h2.size, h2.high] at this; exact this)
    (fun W => oneMore_any sl sr W h1.s0 h1.s1 h2.s0 h2.s1)
    (fun e W => by rw [Int.max_eq_left e]; exact oneMore_any hl 0 W a1 a2 (by omega) (by omega))
    (fun e W => by rw [Int.max_eq_right (by omega)]; exact oneMore_any hr 0 W a3 a4 (by omega) (by omega)) cm

theorem nmake_ok (k v : Int) (hA : Arena w p F room st l) (h1 : Hung l lt sl hl) (h2 : Hung l rt sr hr) (hroom : (l.length : Int) < room) :
    Calls Try.prog 14 #[.pointer (some ⟨p, 0, none⟩), .agg #[.int .i64 k, .int .i64 v], .int .i64 lt, .int .i64 rt] w (Made w p F room st l (1, [k, v, lt, rt, oneM sl sr, oneM (max hl hr) 0])) :=
  nmake_any k v _ 0 (fun w' => Arena w' p (Plus F w w') room st (l ++ [(1, [k, v, lt, rt, oneM sl sr, oneM (max hl hr) 0])]) ∧ Only F w w') hA h1 h2
    (fun W g b hg => make_six b k v lt rt _ _ g p F room st l hA hroom hg)

theorem nmake_full (k v : Int) (hA : Arena w p F room st l) (h1 : Hung l lt sl hl) (h2 : Hung l rt sr hr) (hroom : room = l.length) :
    Calls Try.prog 14 #[.pointer (some ⟨p, 0, none⟩), .agg #[.int .i64 k, .int .i64 v], .int .i64 lt, .int .i64 rt] w fun e w' => e = .returned (.tuple #[.int .i64 0, .int .i64 2]) ∧ Below w.heap.size w w' :=
  nmake_any k v 0 2 (fun w' => Below w.heap.size w w') hA h1 h2 (fun W g b hg => by
    subst hg
    exact (make_full 1 _ 6 6 _ p _ room st l ((hA.below b).fresh _) (by omega) (by omega) hroom).mono fun e w' m => ⟨m.1, below_past b m.2⟩)
end

set_option maxHeartbeats 3200000 in
theorem nmake_badl (k v lt rt : Int) (bp : Option Addr) (b1 b2 : Bool) (w : World) (hne : (bp == none || !b1 || !b2) = true)
    (cl : ∀ W, Below w.heap.size w W → Calls Try.prog 35 #[.pointer bp, .int .i64 lt] W fun e w' =>
      (∃ v0 v1 v2 v3 v4 v5 : Int, e = .returned (.tuple #[.agg #[.int .i64 v0, .int .i64 v1, .int .i64 v2, .int .i64 v3, .int .i64 v4, .int .i64 v5], .bool b1])) ∧ Below W.heap.size W w')
    (cr : ∀ W, Below w.heap.size w W → Calls Try.prog 35 #[.pointer bp, .int .i64 rt] W fun e w' =>
      (∃ v0 v1 v2 v3 v4 v5 : Int, e = .returned (.tuple #[.agg #[.int .i64 v0, .int .i64 v1, .int .i64 v2, .int .i64 v3, .int .i64 v4, .int .i64 v5], .bool b2])) ∧ Below W.heap.size W w') :
    Calls Try.prog 14 #[.pointer bp, .agg #[.int .i64 k, .int .i64 v], .int .i64 lt, .int .i64 rt] w fun e w' => e = .returned (.tuple #[.int .i64 0, .int .i64 1]) ∧ Below w.heap.size w w' := by
  have ba : ∀ o, Below w.heap.size w (w.alloc o) := fun o => (Below.refl _ _).alloc (Nat.le_refl _) _
  cases bp with
  | none =>
    clear hne
    go_enter Try.func14, Try.ntmps14
    go_wp2_with (first
      | (go_at_call_of 35 (Value.int .i64 lt); ((with_reducible refine (cl _ (ba _)).mono ?_); rintro e w1 ⟨⟨v0, v1, v2, v3, v4, v5, rfl⟩, hb⟩; have b1 := below_past (Below.refl _ _) hb; clear cl hb))
      | (go_at_call_of 35 (Value.int .i64 rt); ((with_reducible refine (cr _ (b1.alloc b1.size _)).mono ?_); rintro e w2 ⟨⟨u0, u1, u2, u3, u4, u5, rfl⟩, hb⟩; have b2 := below_past b1 hb; clear cr hb b1)))
    all_goals go_ret2
    all_goals exact ⟨rfl, b2.alloc b2.size _⟩
  | some a =>
    cases b1 with
    | false =>
      clear hne
      go_enter Try.func14, Try.ntmps14
      go_wp2_with (first
        | (go_at_call_of 35 (Value.int .i64 lt); ((with_reducible refine (cl _ (ba _)).mono ?_); rintro e w1 ⟨⟨v0, v1, v2, v3, v4, v5, rfl⟩, hb⟩; have b1 := below_past (Below.refl _ _) hb; clear cl hb))
        | (go_at_call_of 35 (Value.int .i64 rt); ((with_reducible refine (cr _ (b1.alloc b1.size _)).mono ?_); rintro e w2 ⟨⟨u0, u1, u2, u3, u4, u5, rfl⟩, hb⟩; have b2 := below_past b1 hb; clear cr hb b1)))
      all_goals go_ret2
      all_goals exact ⟨rfl, b2.alloc b2.size _⟩
    | true =>
      obtain rfl : b2 = false := by cases b2 <;> simp_all
      clear hne
      go_enter Try.func14, Try.ntmps14
      go_wp2_with (first
        | (go_at_call_of 35 (Value.int .i64 lt); ((with_reducible refine (cl _ (ba _)).mono ?_); rintro e w1 ⟨⟨v0, v1, v2, v3, v4, v5, rfl⟩, hb⟩; have b1 := below_past (Below.refl _ _) hb; clear cl hb))
        | (go_at_call_of 35 (Value.int .i64 rt); ((with_reducible refine (cr _ (b1.alloc b1.size _)).mono ?_); rintro e w2 ⟨⟨u0, u1, u2, u3, u4, u5, rfl⟩, hb⟩; have b2 := below_past b1 hb; clear cr hb b1)))
      all_goals go_ret2
      all_goals exact ⟨rfl, b2.alloc b2.size _⟩

theorem hung_some (t : Int) (w : World) (p : Nat) (F : Nat → Prop) (room st : Int) (l : List It) (h : Arena w p F room st l) (b : Bool) (hb : b = true ↔ HungOk l t) :
    Calls Try.prog 35 #[.pointer (some ⟨p, 0, none⟩), .int .i64 t] w fun e w' =>
      (∃ v0 v1 v2 v3 v4 v5 : Int, e = .returned (.tuple #[.agg #[.int .i64 v0, .int .i64 v1, .int .i64 v2, .int .i64 v3, .int .i64 v4, .int .i64 v5], .bool b])) ∧ Below w.heap.size w w' := by
  cases b with
  | true => exact (hung_ok t w p F room st l h (hb.1 rfl)).mono fun e w' ⟨⟨a, b, c, d, he⟩, hb⟩ => ⟨⟨a, b, c, d, _, _, he⟩, hb⟩
  | false => exact hung_no t w p F room st l h (fun hk => by have := hb.2 hk; cases this)

theorem nmake_bad (k v lt rt : Int) (w : World) (p : Nat) (F : Nat → Prop) (room st : Int) (l : List It) (h : Arena w p F room st l) (hbad : ¬ (HungOk l lt ∧ HungOk l rt)) :
    Calls Try.prog 14 #[.pointer (some ⟨p, 0, none⟩), .agg #[.int .i64 k, .int .i64 v], .int .i64 lt, .int .i64 rt] w fun e w' => e = .returned (.tuple #[.int .i64 0, .int .i64 1]) ∧ Below w.heap.size w w' := by
  obtain ⟨b1, e1⟩ : ∃ b : Bool, b = true ↔ HungOk l lt := by
    by_cases hh : HungOk l lt
    · exact ⟨true, by simp [hh]⟩
    · exact ⟨false, by simp [hh]⟩
  obtain ⟨b2, e2⟩ : ∃ b : Bool, b = true ↔ HungOk l rt := by
    by_cases hh : HungOk l rt
    · exact ⟨true, by simp [hh]⟩
    · exact ⟨false, by simp [hh]⟩
  refine nmake_badl k v lt rt _ b1 b2 w ?_ (fun W hb => hung_some lt W p F room st l (h.below hb) b1 e1) (fun W hb => hung_some rt W p F room st l (h.below hb) b2 e2)
  cases b1 <;> cases b2 <;> simp
  exact hbad ⟨e1.1 rfl, e2.1 rfl⟩

theorem nmake_nil (k v lt rt : Int) (w : World) :
    Calls Try.prog 14 #[.pointer none, .agg #[.int .i64 k, .int .i64 v], .int .i64 lt, .int .i64 rt] w fun e w' => e = .returned (.tuple #[.int .i64 0, .int .i64 1]) ∧ Below w.heap.size w w' :=
  have c : ∀ (t : Int) (W : World), Calls Try.prog 35 #[.pointer none, .int .i64 t] W fun e w' =>
      (∃ v0 v1 v2 v3 v4 v5 : Int, e = .returned (.tuple #[.agg #[.int .i64 v0, .int .i64 v1, .int .i64 v2, .int .i64 v3, .int .i64 v4, .int .i64 v5], .bool (t == 0)])) ∧ Below W.heap.size W w' := fun t W => by
    by_cases ht : t = 0
    · subst ht
      exact (hung_zero _ W).mono fun e w' hh => ⟨⟨0, 0, 0, 0, 0, 0, hh.1⟩, hh.2⟩
    · rw [show (t == 0) = false by simp [ht]]
      exact (hung_core _ t _ _ _ _ _ _ false W ht (fun W hb => get_nil t W)).mono fun e w' hh => ⟨⟨_, _, _, _, _, _, hh.1⟩, hh.2⟩
  nmake_badl k v lt rt none _ _ w (by simp) (fun W _ => c lt W) (fun W _ => c rt W)

end Go.Proofs.Ytbmlpdkbiipcmaa

namespace Go.Proofs.Ytbmlpdkbiipcmaa
open Go.RowKit
set_option linter.all false

section
variable {w0 w : World} {p : Nat} {room st : Int} {l : List It}

theorem Held.alloc_below {w' : World} (h : Held w0 w p room st l) {o : Obj} (hb : Below (w.alloc o).heap.size (w.alloc o) w') : Held w0 w' p room st l := (h.alloc o).below hb

theorem get_held (h : Held w0 w p room st l) (id : Int) (n0 n1 n2 n3 n4 n5 : Int) (hk : kindL l id = 1)
    (e0 : valL l id 0 = n0) (e1 : valL l id 1 = n1) (e2 : valL l id 2 = n2) (e3 : valL l id 3 = n3) (e4 : valL l id 4 = n4) (e5 : valL l id 5 = n5) :
    Calls Try.prog 17 #[.pointer (some ⟨p, 0, none⟩), .int .i64 id] w fun e w' => e = .returned (.tuple #[.agg #[.int .i64 n0, .int .i64 n1, .int .i64 n2, .int .i64 n3, .int .i64 n4, .int .i64 n5], .bool true]) ∧ Held w0 w' p room st l := by
  subst e0; subst e1; subst e2; subst e3; subst e4; subst e5
  exact (get_yes id w p _ room st l h.a hk).mono fun e w' ⟨he, hb⟩ => ⟨he, h.below hb⟩
theorem get_held_no (h : Held w0 w p room st l) (id : Int) (hk : kindL l id ≠ 1) :
    Calls Try.prog 17 #[.pointer (some ⟨p, 0, none⟩), .int .i64 id] w fun e w' => e = .returned (.tuple #[.agg #[.int .i64 0, .int .i64 0, .int .i64 0, .int .i64 0, .int .i64 0, .int .i64 0], .bool false]) ∧ Held w0 w' p room st l :=
  (get_no id w p _ room st l h.a hk).mono fun e w' ⟨he, hb⟩ => ⟨he, h.below hb⟩

theorem Hung.zero (l : List It) : Hung l 0 0 0 := ⟨.inl rfl, rfl, rfl, by omega, by omega, by omega, by omega⟩

theorem oneM_high {a : Int} (h0 : 0 ≤ a) (h : a ≤ 4611686018427387904) : oneM a 0 = a + 1 := by rw [oneM_small h0 h (by omega)]; omega

/-- Make where sizes and heights are small. -/
theorem nmake_held (h : Held w0 w p room st l) (k v lt rt sl hl sr hr n s hh : Int) (l' : List It) (h1 : Hung l lt sl hl) (h2 : Hung l rt sr hr) (hroom : (l.length : Int) < room)
    (b1 : 0 ≤ sl ∧ sl ≤ 4611686018427387900) (b2 : 0 ≤ sr ∧ sr ≤ 4611686018427387900) (b3 : 0 ≤ hl ∧ hl ≤ 4611686018427387900) (b4 : 0 ≤ hr ∧ hr ≤ 4611686018427387900)
    (hn : n = l.length + 1) (hs : s = sl + sr + 1) (hhh : hh = max hl hr + 1) (hl' : l' = l ++ [(1, [k, v, lt, rt, s, hh])]) :
    Calls Try.prog 14 #[.pointer (some ⟨p, 0, none⟩), .agg #[.int .i64 k, .int .i64 v], .int .i64 lt, .int .i64 rt] w fun e w' => e = .returned (.tuple #[.int .i64 n, .int .i64 0]) ∧ Held w0 w' p room st l' := by
  have es : oneM sl sr = s := by rw [oneM_small b1.1 (by omega) (by omega)]; omega
  have eh : oneM (max hl hr) 0 = hh := by rw [oneM_high (by omega) (by omega)]; omega
  subst hn; subst hl'
  refine (nmake_ok k v h.a h1 h2 hroom).mono fun e w' ⟨he, ha, ho⟩ => ?_
  rw [es, eh] at ha
  exact ⟨by rw [he]; simp, h.only ha ho (fun _ hk => hk)⟩
theorem nmake_held_full (h : Held w0 w p room st l) (k v lt rt sl hl sr hr : Int) (h1 : Hung l lt sl hl) (h2 : Hung l rt sr hr) (hroom : room = l.length) :
    Calls Try.prog 14 #[.pointer (some ⟨p, 0, none⟩), .agg #[.int .i64 k, .int .i64 v], .int .i64 lt, .int .i64 rt] w fun e w' => e = .returned (.tuple #[.int .i64 0, .int .i64 2]) ∧ Held w0 w' p room st l :=
  (nmake_full k v h.a h1 h2 hroom).mono fun e w' ⟨he, hb⟩ => ⟨he, h.below hb⟩
theorem nmake_held_bad (h : Held w0 w p room st l) (k v lt rt : Int) (hbad : ¬ (HungOk l lt ∧ HungOk l rt)) :
    Calls Try.prog 14 #[.pointer (some ⟨p, 0, none⟩), .agg #[.int .i64 k, .int .i64 v], .int .i64 lt, .int .i64 rt] w fun e w' => e = .returned (.tuple #[.int .i64 0, .int .i64 1]) ∧ Held w0 w' p room st l :=
  (nmake_bad k v lt rt w p _ room st l h.a hbad).mono fun e w' ⟨he, hb⟩ => ⟨he, h.below hb⟩
end

end Go.Proofs.Ytbmlpdkbiipcmaa
