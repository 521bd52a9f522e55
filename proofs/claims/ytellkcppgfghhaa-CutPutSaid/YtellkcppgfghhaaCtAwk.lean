/- osierlaw6.made, osierlaw6.awake. -/
import Derived.Test.YtellkcppgfghhaaCt2
import Derived.Test.YtellkcppgfghhaaLkMade
namespace Go.Proofs.Ytellkcppgfghhaa
open Go.RowKit
set_option linter.all false

set_option maxRecDepth 100000 in
set_option maxHeartbeats 1600000 in
theorem made6_any (w : World) : Calls Try.prog 32 #[] w (MadeSays w) := by
  have c1 := new_any 100 w
  rw [show min (max (100 : Int) 0) 60000 = 100 by decide] at c1
  have hA : Arena (w.alloc (.cells #[.int .i64 100, .int .i64 0, .slice none 0 0, .slice none 0 0] 58)) w.heap.size (fun k => k = w.heap.size) 100 0 [] := new_arena 100 w (by decide) (by decide)
  have cl := fun x hx => laid_lit w (w.alloc (.cells #[.int .i64 100, .int .i64 0, .slice none 0 0, .slice none 0 0] 58)) w.heap.size x (by simp) (Nat.le_refl _) ((Below.refl _ _).alloc (Nat.le_refl _) _) hA hx
  have HL := Lib.hid cl
  clear hA cl
  go_enter Try.func32, Try.ntmps32
  go_wp2_with (first
    | (go_at_call 12; ((with_reducible refine c1.mono ?_); clear c1; rintro e w1 ⟨rfl, rfl⟩))
    | (go_at_call 13; (refine (HL.out _ (by simp)).mono ?_; rintro e w2 ⟨t, L, rfl, hH, hl, hT, hG⟩)))
  go_ret2
  exact ⟨_, t, L, rfl, hH, hl, hT, hG⟩

set_option maxRecDepth 100000 in
set_option maxHeartbeats 3200000 in
theorem cawake_any (w : World) : Calls Try.prog 15 #[] w fun e w' => e = .returned (.bool true) ∧ Below w.heap.size w w' := by
  have cm := made6_any w
  have e1 : cutL madeL 2 = [(1, 5), (3, 7)] := by rfl
  have E1 := Lib.hid e1
  have S1 := Lib.hid (cutL_srt madeL_srt 2)
  have hm := hi_le _ madeL (Nat.le_refl _)
  have HM := Lib.hid (show hi madeL ≤ 3 from hm)
  clear e1 hm
  go_enter Try.func15, Try.ntmps15
  go_wp2_with (first
    | (go_at_call 32; ((with_reducible refine cm.mono ?_); clear cm; rintro e W1 ⟨p, t, L, rfl, h1, hl, hT, hG⟩; have HT := Lib.hid hT; have HL := Lib.hid hl; clear hT hG hl))
    | (go_at_call 17; have cc := cut_ok h1 HT.out madeL_srt (by decide) (by rw [HL.out]; have := HM.out; omega) (k := 2) (v := 6) rfl; ((with_reducible refine cc.mono ?_); clear cc; rintro e W2 ⟨u, M, rfl, h2, hM, hT2⟩; have HT2 := Lib.hid hT2; clear hM hT2 h1))
    | (go_at_call 33; have cc := tget h2 HT2.out S1.out 2 0 false (by rw [E1.out]; rfl) (by rw [E1.out]; rfl); ((with_reducible refine cc.mono ?_); clear cc; rintro e W4 ⟨rfl, hb4⟩; have h4 := h2.below hb4; clear h2 hb4))
    | (go_at_call 34; have cc := tsize h4 HT2.out 2 (by rw [E1.out]; rfl); ((with_reducible refine cc.mono ?_); clear cc; rintro e W5 ⟨rfl, hb5⟩; have h5 := h4.below hb5; clear h4))
    | (go_at_call 34; have cc := tsize h5 (HT.out.app M) 3 (by rfl); ((with_reducible refine cc.mono ?_); clear cc; rintro e W6 ⟨rfl, hb6⟩; have h6 := h5.below hb6; clear h5)))
  go_ret
  exact ⟨rfl, h6.b⟩
end Go.Proofs.Ytellkcppgfghhaa
