/- Contracts of package node: hung, Make; Leaf, Holds. -/
import Derived.Test.YtmbeaefgakfbnaaNd
namespace Go.Proofs.Ytmbeaefgakfbnaa
open Go.RowKit
set_option linter.all false

section
variable (id : Int) (w : World) (p : Nat) (F : Nat → Prop) (room st : Int) (l : List It)

theorem get_yes (h : Arena w p F room st l) (hk : kindL l id = 1) :
    Calls Try.prog 26 #[.pointer (some ⟨p, 0, none⟩), .int .i64 id] w fun e w' =>
      e = .returned (.tuple #[.agg #[.int .i64 (valL l id 0), .int .i64 (valL l id 1), .int .i64 (valL l id 2), .int .i64 (valL l id 3), .int .i64 (valL l id 4), .int .i64 (valL l id 5)], .bool true]) ∧ Below w.heap.size w w' :=
  (get_any id w p F room st l h).mono fun e w' hh => ⟨by have := hh.1; rw [if_pos hk] at this; exact this, hh.2⟩
theorem get_no (h : Arena w p F room st l) (hk : kindL l id ≠ 1) :
    Calls Try.prog 26 #[.pointer (some ⟨p, 0, none⟩), .int .i64 id] w fun e w' =>
      e = .returned (.tuple #[.agg #[.int .i64 0, .int .i64 0, .int .i64 0, .int .i64 0, .int .i64 0, .int .i64 0], .bool false]) ∧ Below w.heap.size w w' :=
  (get_any id w p F room st l h).mono fun e w' hh => ⟨by have := hh.1; rw [if_neg hk] at this; exact this, hh.2⟩
end

/-- What may hang on the next node. -/
def HungOk (l : List It) (t : Int) : Prop := t = 0 ∨ kindL l t = 1
def sizeL (l : List It) (t : Int) : Int := if t = 0 then 0 else valL l t 4
def highL (l : List It) (t : Int) : Int := if t = 0 then 0 else valL l t 5

theorem kindL_zero (l : List It) (t : Int) (h : t < 1) : kindL l t = 0 := by unfold kindL itemAt; rw [if_pos h]; rfl

/-- hung of 0. -/
theorem hung_zero (ao : Option Addr) (w : World) :
    Calls Try.prog 31 #[.pointer ao, .int .i64 0] w fun e w' => e = .returned (.tuple #[.agg #[.int .i64 0, .int .i64 0, .int .i64 0, .int .i64 0, .int .i64 0, .int .i64 0], .bool true]) ∧ Below w.heap.size w w' := by
  go_enter Try.func31, Try.ntmps31
  go_wp2
  refine bodyPost_ret (v := .tuple #[.agg #[.int .i64 0, .int .i64 0, .int .i64 0, .int .i64 0, .int .i64 0, .int .i64 0], .bool true]) (by simp [results, Try.results31, go_sem]) rfl ⟨rfl, ?_⟩
  exact (Below.refl _ _).alloc (Nat.le_refl _) _

theorem hung_core (ao : Option Addr) (t v0 v1 v2 v3 v4 v5 : Int) (b : Bool) (w : World) (ht : t ≠ 0)
    (cg : ∀ W, Below w.heap.size w W → Calls Try.prog 26 #[.pointer ao, .int .i64 t] W fun e w' => e = .returned (.tuple #[.agg #[.int .i64 v0, .int .i64 v1, .int .i64 v2, .int .i64 v3, .int .i64 v4, .int .i64 v5], .bool b]) ∧ Below W.heap.size W w') :
    Calls Try.prog 31 #[.pointer ao, .int .i64 t] w fun e w' => e = .returned (.tuple #[.agg #[.int .i64 v0, .int .i64 v1, .int .i64 v2, .int .i64 v3, .int .i64 v4, .int .i64 v5], .bool b]) ∧ Below w.heap.size w w' := by
  have ht' : (t == 0) = false := by simp [ht]
  have ba : ∀ o, Below w.heap.size w (w.alloc o) := fun o => (Below.refl _ _).alloc (Nat.le_refl _) _
  clear ht
  go_enter Try.func31, Try.ntmps31
  go_wp2_with (go_at_call 26; ((with_reducible refine (cg _ (ba _)).mono ?_); rintro e w' ⟨rfl, hb⟩; have zz := (SixZ.new w _).keep hb; obtain ⟨Wf, hWf, r0, r1, r2, r3, r4, r5, rb⟩ := zz.put (.int .i64 v0) (.int .i64 v1) (.int .i64 v2) (.int .i64 v3) (.int .i64 v4) (.int .i64 v5); obtain ⟨z0, z1, z2, z3, z4, z5, f0, f1, f2, f3, f4, f5⟩ := zz))
  rw [← hWf]
  clear hWf z0 z1 z2 z3 z4 z5 f0 f1 f2 f3 f4 f5
  refine bodyPost_ret (v := .tuple #[.agg #[.int .i64 v0, .int .i64 v1, .int .i64 v2, .int .i64 v3, .int .i64 v4, .int .i64 v5], .bool b]) (by simp [results, Try.results31, go_sem, r0, r1, r2, r3, r4, r5]) rfl ⟨rfl, ?_⟩
  exact ((ba _).trans (hb.mono (ba _).size)).trans rb

theorem hung_ok (t : Int) (w : World) (p : Nat) (F : Nat → Prop) (room st : Int) (l : List It) (h : Arena w p F room st l) (hk : HungOk l t) :
    Calls Try.prog 31 #[.pointer (some ⟨p, 0, none⟩), .int .i64 t] w fun e w' =>
      (∃ v0 v1 v2 v3 : Int, e = .returned (.tuple #[.agg #[.int .i64 v0, .int .i64 v1, .int .i64 v2, .int .i64 v3, .int .i64 (sizeL l t), .int .i64 (highL l t)], .bool true])) ∧ Below w.heap.size w w' := by
  by_cases ht : t = 0
  · subst ht
    exact (hung_zero _ w).mono fun e w' hh => ⟨⟨0, 0, 0, 0, hh.1⟩, hh.2⟩
  · have hk : kindL l t = 1 := hk.resolve_left ht
    unfold sizeL highL
    rw [if_neg ht, if_neg ht]
    exact (hung_core _ t _ _ _ _ _ _ true w ht (fun W hb => get_yes t W p F room st l (h.below hb) hk)).mono fun e w' hh => ⟨⟨_, _, _, _, hh.1⟩, hh.2⟩
theorem hung_no (t : Int) (w : World) (p : Nat) (F : Nat → Prop) (room st : Int) (l : List It) (h : Arena w p F room st l) (hk : ¬ HungOk l t) :
    Calls Try.prog 31 #[.pointer (some ⟨p, 0, none⟩), .int .i64 t] w fun e w' =>
      (∃ v0 v1 v2 v3 v4 v5 : Int, e = .returned (.tuple #[.agg #[.int .i64 v0, .int .i64 v1, .int .i64 v2, .int .i64 v3, .int .i64 v4, .int .i64 v5], .bool false])) ∧ Below w.heap.size w w' :=
  (hung_core _ t _ _ _ _ _ _ false w (fun e => hk (.inl e)) (fun W hb => get_no t W p F room st l (h.below hb) (fun e => hk (.inr e)))).mono fun e w' hh => ⟨⟨_, _, _, _, _, _, hh.1⟩, hh.2⟩
theorem hung_nil (t : Int) (w : World) :
    Calls Try.prog 31 #[.pointer none, .int .i64 t] w fun e w' =>
      (∃ (v0 v1 v2 v3 v4 v5 : Int) (b : Bool), e = .returned (.tuple #[.agg #[.int .i64 v0, .int .i64 v1, .int .i64 v2, .int .i64 v3, .int .i64 v4, .int .i64 v5], .bool b])) ∧ Below w.heap.size w w' := by
  by_cases ht : t = 0
  · subst ht
    exact (hung_zero _ w).mono fun e w' hh => ⟨⟨0, 0, 0, 0, 0, 0, true, hh.1⟩, hh.2⟩
  · exact (hung_core _ t _ _ _ _ _ _ false w ht (fun W hb => get_nil t W)).mono fun e w' hh => ⟨⟨_, _, _, _, _, _, _, hh.1⟩, hh.2⟩

/-! ### Leaf, Holds -/

theorem holds_any (v0 v1 v2 v3 v4 v5 k : Int) (w : World) :
    Calls Try.prog 28 #[.agg #[.int .i64 v0, .int .i64 v1, .int .i64 v2, .int .i64 v3, .int .i64 v4, .int .i64 v5], .int .i64 k] w fun e w' => e = .returned (.bool (v0 == k)) ∧ Below w.heap.size w w' := by
  go_enter Try.func28, Try.ntmps28
  go_wp2
  go_ret
  exact ⟨rfl, (Below.refl _ _).alloc (Nat.le_refl _) _⟩

end Go.Proofs.Ytmbeaefgakfbnaa
