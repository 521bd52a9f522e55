/- Contracts of the arena's makings: Make, Cell. -/
import Derived.Test.YtmbeaefgakfbnaaAc4
namespace Go.Proofs.Ytmbeaefgakfbnaa
open Go.RowKit
set_option linter.unusedVariables false

/-! ### Make, Cell -/

theorem Arena.fresh {w : World} {p : Nat} {F : Nat → Prop} {room st : Int} {l : List It} (h : Arena w p F room st l) (o : Obj) : Arena (w.alloc o) p (fun k => F k ∧ k ≠ w.heap.size) room st l :=
  (h.mono (fun k hk hlt => ⟨hk, by omega⟩)).below ((Below.refl _ _).alloc (Nat.le_refl _) _)

theorem make_nil (k : Int) (x : Value) (w : World) :
    Calls Try.prog 33 #[.pointer none, .int .i64 k, x] w fun e w' => e = .returned (.tuple #[.int .i64 0, .int .i64 1]) ∧ w = w' := by
  go_enter Try.func33, Try.ntmps33
  go_wp2
  go_ret2
  exact ⟨rfl, rfl⟩

set_option maxHeartbeats 400000 in
theorem make_arg (k : Int) (ao : Option Addr) (n c : Nat) (w : World) (p : Nat) (hn : n ≤ maxLen) (h : k < 1 ∨ 12 < n) :
    Calls Try.prog 33 #[.pointer (some ⟨p, 0, none⟩), .int .i64 k, .slice ao n c] w fun e w' => e = .returned (.tuple #[.int .i64 0, .int .i64 1]) ∧ w = w' := by
  unfold maxLen at hn
  by_cases hk : k < 1
  · clear h
    go_enter Try.func33, Try.ntmps33
    go_wp2
    go_ret2
    exact ⟨rfl, rfl⟩
  · have hk1 : 1 ≤ k := by omega
    have hn1 : (12 : Int) < (n : Int) := by omega
    clear h hk
    go_enter Try.func33, Try.ntmps33
    go_wp2
    go_ret2
    exact ⟨rfl, rfl⟩

set_option maxHeartbeats 400000 in
theorem make_full (k : Int) (ao : Option Addr) (n c : Nat) (w : World) (p : Nat) (F : Nat → Prop) (room st : Int) (l : List It) (h : Arena w p F room st l) (hk : 1 ≤ k) (hn : n ≤ 12) (hf : room = l.length) :
    Calls Try.prog 33 #[.pointer (some ⟨p, 0, none⟩), .int .i64 k, .slice ao n c] w fun e w' => e = .returned (.tuple #[.int .i64 0, .int .i64 2]) ∧ Below w.heap.size w w' := by
  have ct := add_full k (.slice ao n c) w p F room st l h hf
  have hn1 : ¬ (12 : Int) < (n : Int) := by omega
  clear h hf
  go_enter Try.func33, Try.ntmps33
  go_wp2_with (go_at_call 41; ((with_reducible refine ct.mono ?_); rintro e w' ⟨rfl, hb⟩))
  go_ret2
  exact ⟨rfl, hb⟩

/-- What a making that goes well leaves. -/
def Made (w : World) (p : Nat) (F : Nat → Prop) (room st : Int) (l : List It) (x : It) (e : Ending) (w' : World) : Prop :=
  e = .returned (.tuple #[.int .i64 ((l.length + 1 : Nat) : Int), .int .i64 0]) ∧ Arena w' p (Plus F w w') room st (l ++ [x]) ∧ Only F w w'

set_option maxHeartbeats 400000 in
theorem make_ok (k : Int) (vs : List Int) (x : Value) (w : World) (p : Nat) (F : Nat → Prop) (room st : Int) (l : List It) (h : Arena w p F room st l) (hk : 1 ≤ k) (hn : vs.length ≤ 12) (hr : (l.length : Int) < room) (hx : Ints F w x vs) :
    Calls Try.prog 33 #[.pointer (some ⟨p, 0, none⟩), .int .i64 k, x] w (Made w p F room st l (k, vs)) := by
  have ct := add_room k vs x w p F room st l h hr ⟨by dsimp only; omega, hn, fun e => by dsimp only at e; omega⟩ hx
  obtain ⟨ao, c, rfl, _⟩ := hx.value
  have hn1 : ¬ (12 : Int) < (vs.length : Int) := by omega
  clear h hr hx
  go_enter Try.func33, Try.ntmps33
  go_wp2_with (go_at_call 41; ((with_reducible refine ct.mono ?_); rintro e w' ⟨rfl, hA, hO⟩))
  go_ret2
  exact ⟨rfl, hA, hO⟩

end Go.Proofs.Ytmbeaefgakfbnaa
