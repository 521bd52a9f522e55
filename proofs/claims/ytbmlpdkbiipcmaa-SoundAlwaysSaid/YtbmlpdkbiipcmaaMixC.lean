/- Contracts of mix.Prio, mix.Above. -/
import Derived.Test.YtbmlpdkbiipcmaaRows
import Derived.Test.YtbmlpdkbiipcmaaMath
import Derived.Lib.Hide
namespace Go.Proofs.Ytbmlpdkbiipcmaa
open Go.ChangeShapes Go.WideShapes Go.ChangeAt Go.RowKit
set_option linter.all false

theorem mixPrio_any (a : Int) (w : World) :
    Calls Try.prog 64 #[.int .i64 a] w fun e w' => e = .returned (.int .u64 (prio a)) ∧ w = w' := by
  rw [← prio_eq a _ _ _ rfl rfl rfl]
  go_enter Try.func64, Try.ntmps64
  go_wp2
  go_ret
  exact ⟨rfl, rfl⟩

theorem mixAbove_core (a b p q : Int)
    (ca : ∀ w, Calls Try.prog 64 #[.int .i64 a] w fun e w' => e = .returned (.int .u64 p) ∧ w = w')
    (cb : ∀ w, Calls Try.prog 64 #[.int .i64 b] w fun e w' => e = .returned (.int .u64 q) ∧ w = w') (w : World) :
    Calls Try.prog 55 #[.int .i64 a, .int .i64 b] w fun e w' => e = .returned (.bool (decide (q < p) || (p == q && decide (a < b)))) ∧ w = w' := by
  by_cases h1 : q < p
  · go_enter Try.func55, Try.ntmps55
    go_wp2_with (first | (go_at_call 64; ((with_reducible refine (ca _).mono ?_); rintro e w' ⟨rfl, rfl⟩)) | (go_at_call 64; ((with_reducible refine (cb _).mono ?_); rintro e w' ⟨rfl, rfl⟩)))
    all_goals go_ret
    all_goals exact ⟨by simp [h1], rfl⟩
  · have h1' : decide (q < p) = false := by simp only [decide_eq_false_iff_not]; exact h1
    rw [h1']
    by_cases h2 : p = q
    · have h2' : (p == q) = true := by simp [h2]
      go_enter Try.func55, Try.ntmps55
      go_wp2_with (first | (go_at_call 64; ((with_reducible refine (ca _).mono ?_); rintro e w' ⟨rfl, rfl⟩)) | (go_at_call 64; ((with_reducible refine (cb _).mono ?_); rintro e w' ⟨rfl, rfl⟩)))
      all_goals go_ret
      all_goals exact ⟨by simp [h2'], rfl⟩
    · have h2' : (p == q) = false := by simp [h2]
      go_enter Try.func55, Try.ntmps55
      go_wp2_with (first | (go_at_call 64; ((with_reducible refine (ca _).mono ?_); rintro e w' ⟨rfl, rfl⟩)) | (go_at_call 64; ((with_reducible refine (cb _).mono ?_); rintro e w' ⟨rfl, rfl⟩)))
      all_goals go_ret
      all_goals exact ⟨by simp [h2'], rfl⟩

theorem mixAbove_any (a b : Int) (w : World) :
    Calls Try.prog 55 #[.int .i64 a, .int .i64 b] w fun e w' => e = .returned (.bool (abv a b)) ∧ w = w' :=
  mixAbove_core a b (prio a) (prio b) (mixPrio_any a) (mixPrio_any b) w

end Go.Proofs.Ytbmlpdkbiipcmaa
