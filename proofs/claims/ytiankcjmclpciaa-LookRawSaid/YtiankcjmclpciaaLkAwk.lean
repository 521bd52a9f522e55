/- osierlaw4.awake. -/
import Derived.Test.YtiankcjmclpciaaLkT
import Derived.Test.YtiankcjmclpciaaLkMade
namespace Go.Proofs.Ytiankcjmclpciaa
open Go.RowKit
set_option linter.all false

set_option maxRecDepth 100000 in
set_option maxHeartbeats 3200000 in
theorem lawake_any (w : World) : Calls Try.prog 21 #[] w fun e w' => e = .returned (.bool true) ∧ Below w.heap.size w w' := by
  have cm := made_any w
  go_enter Try.func21, Try.ntmps21
  go_wp2_with (first
    | (go_at_call 36; ((with_reducible refine cm.mono ?_); clear cm; rintro e W1 ⟨p, t, L, rfl, h1, hl, hT, hG⟩; have HT := Lib.hid hT; clear hT hG hl))
    | (go_at_call 12; have cc := tget h1 HT.out madeL_srt 2 6 true rfl rfl; ((with_reducible refine cc.mono ?_); clear cc; rintro e W2 ⟨rfl, hb2⟩; have h2 := h1.below hb2; clear h1))
    | (go_at_call 19; have cc := tnth h2 HT.out (by decide) 2 3 7 true rfl rfl; ((with_reducible refine cc.mono ?_); clear cc; rintro e W3 ⟨rfl, hb3⟩; have h3 := h2.below hb3; have h4 := h3.alloc (.cells #[.int .i64 3, .int .i64 7] 31); clear h2))
    | (go_at_call 14; have cc := tsize h4 HT.out 3 rfl; ((with_reducible refine cc.mono ?_); clear cc; rintro e W5 ⟨rfl, hb5⟩; have h5 := h4.below hb5; clear h4))
    | (go_at_call 20; have cc := tbelow h5 HT.out madeL_srt (by decide) 3 2 rfl; ((with_reducible refine cc.mono ?_); clear cc; rintro e W6 ⟨rfl, hb6⟩; have h6 := h5.below hb6; clear h5)))
  go_ret
  exact ⟨rfl, h6.b⟩
end Go.Proofs.Ytiankcjmclpciaa
