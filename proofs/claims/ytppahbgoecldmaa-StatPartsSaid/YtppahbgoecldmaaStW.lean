/- Package stat: osierlaw12.awake. -/
import Derived.Test.YtppahbgoecldmaaStA
namespace Go.Proofs.Ytppahbgoecldmaa
open Go.RowKit Go.ChangeShapes Go.WideShapes Go.ChangeAt
set_option linter.all false
theorem ea_next (w : World) : Calls Try.prog 10 #[.agg #[.int .i64 1, .int .i64 (-1), .int .i64 2, .int .i64 (-1), .int .i64 3], .int .i64 0, .int .i64 2] w fun e w' => e = .returned (.int .i64 1) ∧ Below w.heap.size w w' :=
  by have := next_to 1 (-1) 2 (-1) 3 1 (-1) 2 (-1) 3 0 2 (by decide) w; rwa [show nx 2 (-1) 3 0 2 = 1 by decide] at this
theorem ea_dec (w : World) : Calls Try.prog 11 #[.agg #[.int .i64 1, .int .i64 (-1), .int .i64 2, .int .i64 (-1), .int .i64 3], .int .i64 2] w fun e w' => e = .returned (.int .i64 1) ∧ Below w.heap.size w w' :=
  by have := decide_to 1 (-1) 2 (-1) 3 1 (-1) 2 (-1) 3 2 (by decide) w; rwa [show dc 1 (-1) 2 = 1 by decide] at this
theorem ea_dec2 (w : World) : Calls Try.prog 11 #[.agg #[.int .i64 1, .int .i64 (-1), .int .i64 2, .int .i64 (-1), .int .i64 3], .int .i64 (-2)] w fun e w' => e = .returned (.int .i64 2) ∧ Below w.heap.size w w' :=
  by have := decide_to 1 (-1) 2 (-1) 3 1 (-1) 2 (-1) 3 (-2) (by decide) w; rwa [show dc 1 (-1) (-2) = 2 by decide] at this
theorem RI.two (w : World) (x y : Int) : RI (w.alloc (.cells #[.int .i64 x, .int .i64 y] 3)) (some ⟨w.heap.size, 0, Option.none⟩) 2 [x, y] :=
  ⟨Nat.le_refl _, by unfold maxLen; omega, fun n v hv => by
    match n, hv with
    | 0, hv => simp at hv; subst hv; exact ⟨_, _, rfl, by simp⟩
    | 1, hv => simp at hv; subst hv; exact ⟨_, _, rfl, by simp⟩⟩
theorem ea_after (b : Nat) (w : World) (R : RI w (some ⟨b, 0, none⟩) 2 [1, 3]) : Calls Try.prog 13 #[.agg #[.int .i64 1, .int .i64 (-1), .int .i64 2, .int .i64 (-1), .int .i64 3], .int .i64 0, .slice (some ⟨b, 0, none⟩) 2 2] w fun e w' => e = .returned (.int .i64 (-1)) ∧ Below w.heap.size w w' :=
  by have := after_to 1 (-1) 2 (-1) 3 1 (-1) 2 (-1) 3 0 _ 2 [1, 3] (by decide) w R; rwa [show af 2 (-1) 3 0 [1, 3] = -1 by decide] at this
set_option maxRecDepth 100000 in
set_option maxHeartbeats 3200000 in
theorem awake_any (w : World) :
    Calls Try.prog 8 #[] w fun e w' => e = .returned (.bool true) ∧ Below w.heap.size w w' := by
  go_enter Try.func8, Try.ntmps8
  go_wp2_with (first
    | (go_at_call 15; ((with_reducible refine (eager_any _).mono ?_); rintro e W1 ⟨rfl, h⟩; have hB := Lib.hid (h.alloc h.size (.cells #[.int .i64 1, .int .i64 (-1), .int .i64 2, .int .i64 (-1), .int .i64 3] 23)); clear h))
    | (go_at_call 10; ((with_reducible refine (ea_next _).mono ?_); rintro e W2 ⟨rfl, h⟩; have hB2 := Lib.hid (bst hB.out h); have HP2 := Lib.hid ((Pl.new W1 23 (h := 1) (l := -1) (c := 2) (u := -1) (m := 3)).keep h); obtain ⟨p0, p1, p2, p3, p4⟩ := HP2.out; clear h))
    | (go_at_call 11; ((with_reducible refine (ea_dec _).mono ?_); rintro e W3 ⟨rfl, h⟩; have hB3 := Lib.hid (bst hB2.out h); have HP3 := Lib.hid (HP2.out.keep h); clear p0 p1 p2 p3 p4; obtain ⟨p0, p1, p2, p3, p4⟩ := HP3.out; clear h))
    | (go_at_call 11; ((with_reducible refine (ea_dec2 _).mono ?_); rintro e W4 ⟨rfl, h⟩; have hB4 := Lib.hid (bst hB3.out h); have HP4 := Lib.hid (HP3.out.keep h); clear p0 p1 p2 p3 p4; obtain ⟨p0, p1, p2, p3, p4⟩ := HP4.out; clear h))
    | (go_at_call 13; ((with_reducible refine (ea_after _ _ (RI.two _ _ _)).mono ?_); rintro e W5 ⟨rfl, h⟩; have hB5 := Lib.hid (bst (hB4.out.alloc hB4.out.size _) h); clear h)))
  go_ret
  exact ⟨rfl, hB5.out⟩
end Go.Proofs.Ytppahbgoecldmaa
