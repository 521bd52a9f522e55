/- Contracts of the arena's small functions: New, Used, Room, Steps, at. -/
import Derived.Test.YtmbeaefgakfbnaaArena
import Derived.LoopTactic
import Derived.WalkKit
import Derived.ProofKit
import Derived.Deep.QuietTactic
import Derived.BigQuiet
import Derived.Calls
namespace Go.Proofs.Ytmbeaefgakfbnaa
open Go.RowKit
set_option linter.unusedVariables false

theorem add_lit (b o j : Nat) : Addr.add ⟨b, o, none⟩ j = ⟨b, o + j, none⟩ := by unfold Addr.add; split <;> simp_all

theorem used_nil (w : World) :
    Calls Try.prog 10 #[.pointer none] w fun e w' => e = .returned (.int .i64 0) ∧ w = w' := by
  go_enter Try.func10, Try.ntmps10
  go_wp2
  go_ret
  exact ⟨rfl, rfl⟩
theorem room_nil (w : World) :
    Calls Try.prog 45 #[.pointer none] w fun e w' => e = .returned (.int .i64 0) ∧ w = w' := by
  go_enter Try.func45, Try.ntmps45
  go_wp2
  go_ret
  exact ⟨rfl, rfl⟩
theorem steps_nil (w : World) :
    Calls Try.prog 17 #[.pointer none] w fun e w' => e = .returned (.int .i64 0) ∧ w = w' := by
  go_enter Try.func17, Try.ntmps17
  go_wp2
  go_ret
  exact ⟨rfl, rfl⟩

set_option maxHeartbeats 400000 in
theorem used_any (w : World) (p : Nat) (F : Nat → Prop) (room st : Int) (l : List It) (h : Arena w p F room st l) :
    Calls Try.prog 10 #[.pointer (some ⟨p, 0, none⟩)] w fun e w' => e = .returned (.int .i64 l.length) ∧ w = w' := by
  obtain ⟨sv, vv, h, hf⟩ := h
  obtain ⟨ao, cap, rfl, h1, h2⟩ := row_form h.rs
  have c2 := h.c2
  unfold maxLen at h2
  clear h hf
  go_enter Try.func10, Try.ntmps10
  go_wp2
  go_ret
  exact ⟨rfl, rfl⟩

set_option maxHeartbeats 400000 in
theorem steps_any (w : World) (p : Nat) (F : Nat → Prop) (room st : Int) (l : List It) (h : Arena w p F room st l) :
    Calls Try.prog 17 #[.pointer (some ⟨p, 0, none⟩)] w fun e w' => e = .returned (.int .i64 st) ∧ w = w' := by
  obtain ⟨sv, vv, h, hf⟩ := h
  have c2 := h.c1
  clear h hf
  go_enter Try.func17, Try.ntmps17
  go_wp2
  go_ret
  exact ⟨rfl, rfl⟩

set_option maxHeartbeats 400000 in
theorem room_any (w : World) (p : Nat) (F : Nat → Prop) (room st : Int) (l : List It) (h : Arena w p F room st l) :
    Calls Try.prog 45 #[.pointer (some ⟨p, 0, none⟩)] w fun e w' => e = .returned (.int .i64 (room - l.length)) ∧ ∃ n, w' = w.drewN n := by
  obtain ⟨sv, vv, h, hf⟩ := h
  obtain ⟨ao, cap, rfl, h1, h2⟩ := row_form h.rs
  have c2 := h.c2
  have c0 := h.c0
  unfold maxLen at h2
  have hmx := h.max
  have hfi := h.fits
  clear h hf
  go_enter Try.func45, Try.ntmps45
  go_wp2
  go_quiet (fail)
  go_wp2
  go_ret
  exact ⟨rfl, _, rfl⟩

set_option maxHeartbeats 400000 in
theorem new_any (room : Int) (w : World) :
    Calls Try.prog 8 #[.int .i64 room] w fun e w' => e = .returned (.pointer (some ⟨w.heap.size, 0, none⟩)) ∧ w' = w.alloc (.cells #[.int .i64 (min (max room 0) 60000), .int .i64 0, .slice none 0 0, .slice none 0 0] 50) := by
  by_cases h0 : room < 0
  · have e : min (max room 0) 60000 = 0 := by omega
    rw [e]; clear e
    go_enter Try.func8, Try.ntmps8
    go_wp2
    go_ret
    exact ⟨rfl, rfl⟩
  by_cases h1 : 60000 < room
  · have e : min (max room 0) 60000 = 60000 := by omega
    rw [e]; clear e
    go_enter Try.func8, Try.ntmps8
    go_wp2
    go_ret
    exact ⟨rfl, rfl⟩
  · have e : min (max room 0) 60000 = room := by omega
    rw [e]; clear e
    have h0' : 0 ≤ room := by omega
    have h1' : room ≤ 60000 := by omega
    go_enter Try.func8, Try.ntmps8
    go_wp2
    go_ret
    exact ⟨rfl, rfl⟩

theorem new_arena (r : Int) (w : World) (h0 : 0 ≤ r) (h1 : r ≤ 60000) :
    Arena (w.alloc (.cells #[.int .i64 r, .int .i64 0, .slice none 0 0, .slice none 0 0] 50)) w.heap.size (fun k => k = w.heap.size) r 0 [] :=
  ⟨.slice none 0 0, .slice none 0 0, ⟨⟨by simp, by simp, by simp, by simp, fun j => by simp, World.ownsRow_nil _ _ _ _, World.ownsRow_nil _ _ _ _, by simp [Value.ownBlock], by simp [Value.ownBlock], by simp [Value.ownBlock]⟩,
    by simp, by simpa using h0, h1⟩, fun k hk => by simpa [Foot, Value.ownBlock] using hk⟩

set_option maxHeartbeats 400000 in
theorem at_nil (id : Int) (w : World) :
    Calls Try.prog 44 #[.pointer none, .int .i64 id] w fun e w' => e = .returned (.tuple #[.agg #[.int .i64 0, .int .i64 0, .int .i64 0], .bool false]) ∧ Below w.heap.size w w' := by
  go_enter Try.func44, Try.ntmps44
  go_wp2
  exact bodyPost_ret (v := .tuple #[.agg #[.int .i64 0, .int .i64 0, .int .i64 0], .bool false]) (by simp [results, Try.results44, go_sem]) rfl ⟨rfl, (Below.refl _ _).alloc (Nat.le_refl _) _⟩

set_option maxHeartbeats 400000 in
theorem at_no (id : Int) (w : World) (p : Nat) (F : Nat → Prop) (room st : Int) (l : List It) (h : Arena w p F room st l) (hid : id < 1 ∨ (l.length : Int) < id) :
    Calls Try.prog 44 #[.pointer (some ⟨p, 0, none⟩), .int .i64 id] w fun e w' => e = .returned (.tuple #[.agg #[.int .i64 0, .int .i64 0, .int .i64 0], .bool false]) ∧ Below w.heap.size w w' := by
  obtain ⟨sv, vv, h, hf⟩ := h
  obtain ⟨ao, cap, rfl, h1, h2⟩ := row_form h.rs
  have c2 := h.c2
  have hp := h.lt p (.inl rfl)
  unfold maxLen at h2
  clear h hf
  by_cases hlo : id < 1
  · clear hid
    go_enter Try.func44, Try.ntmps44
    go_wp2
    exact bodyPost_ret (v := .tuple #[.agg #[.int .i64 0, .int .i64 0, .int .i64 0], .bool false]) (by simp [results, Try.results44, go_sem]) rfl ⟨rfl, (Below.refl _ _).alloc (Nat.le_refl _) _⟩
  · have hhi : (l.length : Int) < id := by omega
    have hlo' : 1 ≤ id := by omega
    clear hid hlo
    go_enter Try.func44, Try.ntmps44
    go_wp2
    exact bodyPost_ret (v := .tuple #[.agg #[.int .i64 0, .int .i64 0, .int .i64 0], .bool false]) (by simp [results, Try.results44, go_sem]) rfl ⟨rfl, (Below.refl _ _).alloc (Nat.le_refl _) _⟩

end Go.Proofs.Ytmbeaefgakfbnaa
