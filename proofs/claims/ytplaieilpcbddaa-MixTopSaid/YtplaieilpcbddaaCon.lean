/- The contracts of mix.Prio, mix.Above, their twins in the reference and 'awake': each returns what the plain mathematics says, for every int64, and leaves the world alone. -/
import Derived.Test.YtplaieilpcbddaaRows
import Derived.Test.YtplaieilpcbddaaMath
import Derived.Lib.Hide
namespace Go.Proofs.Ytplaieilpcbddaa
open Go.ChangeShapes Go.WideShapes Go.ChangeAt Go.RowKit

theorem prio_any (a : Int) (w : World) :
    Calls Try.prog 7 #[.int .i64 a] w fun e w' => e = .returned (.int .u64 (prio a)) ∧ w = w' := by
  rw [← prio_eq a _ _ _ rfl rfl rfl]
  go_enter Try.func7, Try.ntmps7
  go_wp2
  go_ret
  exact ⟨rfl, rfl⟩

theorem prioR_any (a : Int) (w : World) :
    Calls Try.prog 8 #[.int .i64 a] w fun e w' => e = .returned (.int .u64 (prio a)) ∧ w = w' := by
  rw [← prio_eq a _ _ _ rfl rfl rfl]
  go_enter Try.func8, Try.ntmps8
  go_wp2
  go_ret
  exact ⟨rfl, rfl⟩

theorem above_core (a b p q : Int)
    (ca : ∀ w, Calls Try.prog 7 #[.int .i64 a] w fun e w' => e = .returned (.int .u64 p) ∧ w = w')
    (cb : ∀ w, Calls Try.prog 7 #[.int .i64 b] w fun e w' => e = .returned (.int .u64 q) ∧ w = w') (w : World) :
    Calls Try.prog 9 #[.int .i64 a, .int .i64 b] w fun e w' => e = .returned (.bool (decide (q < p) || (p == q && decide (a < b)))) ∧ w = w' := by
  by_cases h1 : q < p
  · go_enter Try.func9, Try.ntmps9
    go_wp2_with (first | (go_at_call 7; ((with_reducible refine (ca _).mono ?_); rintro e w' ⟨rfl, rfl⟩)) | (go_at_call 7; ((with_reducible refine (cb _).mono ?_); rintro e w' ⟨rfl, rfl⟩)))
    all_goals go_ret
    all_goals exact ⟨by simp [h1], rfl⟩
  · have h1' : decide (q < p) = false := by simp only [decide_eq_false_iff_not]; exact h1
    rw [h1']
    by_cases h2 : p = q
    · have h2' : (p == q) = true := by simp [h2]
      go_enter Try.func9, Try.ntmps9
      go_wp2_with (first | (go_at_call 7; ((with_reducible refine (ca _).mono ?_); rintro e w' ⟨rfl, rfl⟩)) | (go_at_call 7; ((with_reducible refine (cb _).mono ?_); rintro e w' ⟨rfl, rfl⟩)))
      all_goals go_ret
      all_goals exact ⟨by simp [h2'], rfl⟩
    · have h2' : (p == q) = false := by simp [h2]
      go_enter Try.func9, Try.ntmps9
      go_wp2_with (first | (go_at_call 7; ((with_reducible refine (ca _).mono ?_); rintro e w' ⟨rfl, rfl⟩)) | (go_at_call 7; ((with_reducible refine (cb _).mono ?_); rintro e w' ⟨rfl, rfl⟩)))
      all_goals go_ret
      all_goals exact ⟨by simp [h2'], rfl⟩

theorem above_any (a b : Int) (w : World) :
    Calls Try.prog 9 #[.int .i64 a, .int .i64 b] w fun e w' => e = .returned (.bool (abv a b)) ∧ w = w' :=
  above_core a b (prio a) (prio b) (prio_any a) (prio_any b) w

theorem aboveR_core (a b p q : Int)
    (ca : ∀ w, Calls Try.prog 8 #[.int .i64 a] w fun e w' => e = .returned (.int .u64 p) ∧ w = w')
    (cb : ∀ w, Calls Try.prog 8 #[.int .i64 b] w fun e w' => e = .returned (.int .u64 q) ∧ w = w') (w : World) :
    Calls Try.prog 10 #[.int .i64 a, .int .i64 b] w fun e w' => e = .returned (.bool (decide (q < p) || (p == q && decide (a < b)))) ∧ w = w' := by
  by_cases h1 : q < p
  · go_enter Try.func10, Try.ntmps10
    go_wp2_with (first | (go_at_call 8; ((with_reducible refine (ca _).mono ?_); rintro e w' ⟨rfl, rfl⟩)) | (go_at_call 8; ((with_reducible refine (cb _).mono ?_); rintro e w' ⟨rfl, rfl⟩)))
    all_goals go_ret
    all_goals exact ⟨by simp [h1], rfl⟩
  · have h1' : decide (q < p) = false := by simp only [decide_eq_false_iff_not]; exact h1
    rw [h1']
    by_cases h2 : p = q
    · have h2' : (p == q) = true := by simp [h2]
      go_enter Try.func10, Try.ntmps10
      go_wp2_with (first | (go_at_call 8; ((with_reducible refine (ca _).mono ?_); rintro e w' ⟨rfl, rfl⟩)) | (go_at_call 8; ((with_reducible refine (cb _).mono ?_); rintro e w' ⟨rfl, rfl⟩)))
      all_goals go_ret
      all_goals exact ⟨by simp [h2'], rfl⟩
    · have h2' : (p == q) = false := by simp [h2]
      go_enter Try.func10, Try.ntmps10
      go_wp2_with (first | (go_at_call 8; ((with_reducible refine (ca _).mono ?_); rintro e w' ⟨rfl, rfl⟩)) | (go_at_call 8; ((with_reducible refine (cb _).mono ?_); rintro e w' ⟨rfl, rfl⟩)))
      all_goals go_ret
      all_goals exact ⟨by simp [h2'], rfl⟩

theorem aboveR_any (a b : Int) (w : World) :
    Calls Try.prog 10 #[.int .i64 a, .int .i64 b] w fun e w' => e = .returned (.bool (abv a b)) ∧ w = w' :=
  aboveR_core a b (prio a) (prio b) (prioR_any a) (prioR_any b) w

theorem awake_core (p0 p1 : Int) (b01 : Bool) (h0 : p0 = 16294208416658607535) (h1 : b01 = decide (p1 < p0))
    (c0 : ∀ w, Calls Try.prog 7 #[.int .i64 0] w fun e w' => e = .returned (.int .u64 p0) ∧ w = w')
    (c1 : ∀ w, Calls Try.prog 7 #[.int .i64 1] w fun e w' => e = .returned (.int .u64 p1) ∧ w = w')
    (d : ∀ w, Calls Try.prog 9 #[.int .i64 0, .int .i64 1] w fun e w' => e = .returned (.bool b01) ∧ w = w')
    (d3 : ∀ w, Calls Try.prog 9 #[.int .i64 3, .int .i64 3] w fun e w' => e = .returned (.bool false) ∧ w = w') (w : World) :
    Calls Try.prog 11 #[] w fun e w' => e = .returned (.bool true) ∧ w = w' := by
  subst h0
  by_cases h : p1 < 16294208416658607535
  · have hb : b01 = true := by rw [h1]; simp only [decide_eq_true_eq]; exact h
    subst hb
    clear h1
    go_enter Try.func11, Try.ntmps11
    go_wp2_with (first | (go_at_call 9; ((with_reducible refine (d3 _).mono ?_); rintro e w' ⟨rfl, rfl⟩)) | (go_at_call 9; ((with_reducible refine (d _).mono ?_); rintro e w' ⟨rfl, rfl⟩)) | (go_at_call 7; ((with_reducible refine (c0 _).mono ?_); rintro e w' ⟨rfl, rfl⟩)) | (go_at_call 7; ((with_reducible refine (c1 _).mono ?_); rintro e w' ⟨rfl, rfl⟩)))
    all_goals go_ret
    all_goals exact ⟨rfl, rfl⟩
  · have hb : b01 = false := by rw [h1]; simp only [decide_eq_false_iff_not]; exact h
    subst hb
    clear h1
    go_enter Try.func11, Try.ntmps11
    go_wp2_with (first | (go_at_call 9; ((with_reducible refine (d3 _).mono ?_); rintro e w' ⟨rfl, rfl⟩)) | (go_at_call 9; ((with_reducible refine (d _).mono ?_); rintro e w' ⟨rfl, rfl⟩)) | (go_at_call 7; ((with_reducible refine (c0 _).mono ?_); rintro e w' ⟨rfl, rfl⟩)) | (go_at_call 7; ((with_reducible refine (c1 _).mono ?_); rintro e w' ⟨rfl, rfl⟩)))
    all_goals go_ret
    all_goals exact ⟨by simp; omega, rfl⟩

theorem above33 (w : World) : Calls Try.prog 9 #[.int .i64 3, .int .i64 3] w fun e w' => e = .returned (.bool false) ∧ w = w' :=
  (above_any 3 3 w).mono fun _ _ h => ⟨by rw [h.1, abv_self], h.2⟩

theorem awake_any (w : World) : Calls Try.prog 11 #[] w fun e w' => e = .returned (.bool true) ∧ w = w' :=
  awake_core (prio 0) (prio 1) (abv 0 1) prio0 abv_01 (prio_any 0) (prio_any 1) (above_any 0 1) above33 w
end Go.Proofs.Ytplaieilpcbddaa
