/- 'osierlaw3.awake'. -/
import Derived.Test.YtpcfnnegialegaaNHeld
namespace Go.Proofs.Ytpcfnnegialegaa
open Go.RowKit
set_option linter.all false

theorem hung_one : Hung [(1, [1, 2, 0, 0, 1, 1])] 1 1 1 := ⟨.inr rfl, rfl, rfl, by omega, by omega, by omega, by omega⟩

set_option maxHeartbeats 1600000 in
theorem awake_any (w : World) : Calls Try.prog 8 #[] w fun e w' => e = .returned (.bool true) ∧ Below w.heap.size w w' := by
  go_enter Try.func8, Try.ntmps8
  go_wp2_with (first
    | (go_at_call 9; have cc := new_held 9 9 w _ (Below.refl _ _) (by decide); ((with_reducible refine cc.mono ?_); clear cc; rintro e W3 ⟨p, rfl, h1⟩))
    | (go_at_call 10; have cc := nmake_held h1 1 2 0 0 0 0 0 0 1 1 1 [(1, [1, 2, 0, 0, 1, 1])] (Hung.zero _) (Hung.zero _) (by decide) (by decide) (by decide) (by decide) (by decide) rfl rfl rfl rfl; ((with_reducible refine cc.mono ?_); clear cc; rintro e W4 ⟨rfl, h2⟩; clear h1))
    | (go_at_call 10; have cc := nmake_held h2 5 6 1 0 1 1 0 0 2 2 2 [(1, [1, 2, 0, 0, 1, 1]), (1, [5, 6, 1, 0, 2, 2])] hung_one (Hung.zero _) (by decide) (by decide) (by decide) (by decide) (by decide) rfl rfl rfl rfl; ((with_reducible refine cc.mono ?_); clear cc; rintro e W5 ⟨rfl, h3⟩; clear h2))
    | (go_at_call 11; have cc := get_held h3 2 5 6 1 0 2 2 rfl rfl rfl rfl rfl rfl rfl; ((with_reducible refine cc.mono ?_); clear cc; rintro e W6 ⟨rfl, h4⟩; clear h3))
    | (go_at_call 13; have cc := fun W => holds_any 5 6 1 0 2 2 5 W; ((with_reducible refine (cc _).mono ?_); clear cc; rintro e W7 ⟨rfl, h5⟩; have x0 := cell_new h5 0 rfl; have x1 := cell_new h5 1 rfl; have x2 := cell_new h5 2 rfl; have x3 := cell_new h5 3 rfl; have x4 := cell_new h5 4 rfl; have x5 := cell_new h5 5 rfl; have h5b := h4.alloc_below h5; clear h5))
    | (go_at_call 12; have cc := fun W => leaf_any 5 6 1 0 2 2 W; ((with_reducible refine (cc _).mono ?_); clear cc; rintro e W8 ⟨rfl, h6⟩)))
  go_ret
  exact ⟨rfl, (h5b.below h6).b⟩
end Go.Proofs.Ytpcfnnegialegaa
