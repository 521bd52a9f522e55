/- osierlaw9.made, osierlaw9.awake. -/
import Derived.Test.YtbaeemonkgllhaaWaG
import Derived.Test.YtbaeemonkgllhaaLkMade
namespace Go.Proofs.Ytbaeemonkgllhaa
open Go.RowKit
set_option linter.all false

set_option maxRecDepth 100000 in
set_option maxHeartbeats 1600000 in
theorem made9_any (w : World) : Calls Try.prog 30 #[] w (MadeSays w) := by
  have c1 := new_any 100 w
  rw [show min (max (100 : Int) 0) 60000 = 100 by decide] at c1
  have hA : Arena (w.alloc (.cells #[.int .i64 100, .int .i64 0, .slice none 0 0, .slice none 0 0] 49)) w.heap.size (fun k => k = w.heap.size) 100 0 [] := new_arena 100 w (by decide) (by decide)
  have cl := fun x hx => laid_lit w (w.alloc (.cells #[.int .i64 100, .int .i64 0, .slice none 0 0, .slice none 0 0] 49)) w.heap.size x (by simp) (Nat.le_refl _) ((Below.refl _ _).alloc (Nat.le_refl _) _) hA hx
  have HL := Lib.hid cl
  clear hA cl
  go_enter Try.func30, Try.ntmps30
  go_wp2_with (first
    | (go_at_call 9; ((with_reducible refine c1.mono ?_); clear c1; rintro e w1 ⟨rfl, rfl⟩))
    | (go_at_call 10; (refine (HL.out _ (by simp)).mono ?_; rintro e w2 ⟨t, L, rfl, hH, hl, hT, hG⟩)))
  go_ret2
  exact ⟨_, t, L, rfl, hH, hl, hT, hG⟩

theorem madeL_rng : Rng madeL := by
  intro q hq
  unfold madeL at hq
  simp at hq
  rcases hq with rfl | rfl | rfl <;> exact ⟨by decide, by decide⟩

set_option maxRecDepth 100000 in
set_option maxHeartbeats 3200000 in
theorem wawake_any (w : World) : Calls Try.prog 18 #[] w fun e w' => e = .returned (.bool true) ∧ Below w.heap.size w w' := by
  have cm := made9_any w
  go_enter Try.func18, Try.ntmps18
  go_wp2_with (first
    | (go_at_call 30; ((with_reducible refine cm.mono ?_); clear cm; rintro e W1 ⟨p, t, L, rfl, h1, hl, hT, hG⟩; have HT := Lib.hid hT; clear hT hG hl))
    | (go_at_call 15; have cc := wrange h1 HT.out madeL_srt (by decide) 2 9 [(2, 6), (3, 7)] 2 rfl rfl; ((with_reducible refine cc.mono ?_); clear cc; rintro e W2 ⟨ao, cp, rfl, hn1, hn2, hR, hb2⟩; have hP := hR.prs rfl; have h2 := h1.below hb2; obtain ⟨b, o, rfl, r0, r1⟩ := hP.2.2 0 (2, 6) rfl; have R1 := Lib.hid r1; clear hP hR hb2 h1 r0 r1))
    | (go_at_call 12; have cc := wnext h2 HT.out madeL_srt (by decide) 2 3 7 true rfl rfl; ((with_reducible refine cc.mono ?_); clear cc; rintro e W3 ⟨rfl, hb3⟩; have h3 := (h2.below hb3).alloc (.cells #[.int .i64 3, .int .i64 7] 30); have e1 := cell_alloc ((hb3.cell (World.block_lt_of_cell? _ _ R1.out)).trans R1.out) (.cells #[.int .i64 3, .int .i64 7] 30); clear h2 hb3))
    | (go_at_call 16; have cc := wcount h3 HT.out madeL_srt (by decide) 1 2 2 rfl; ((with_reducible refine cc.mono ?_); clear cc; rintro e W4 ⟨rfl, hb4⟩; have h4 := h3.below hb4; clear h3 hb4))
    | (go_at_call 14; have cc := wall h4 HT.out madeL_srt (by decide) madeL_rng 3 rfl; ((with_reducible refine cc.mono ?_); clear cc; rintro e W5 ⟨ao5, cp5, rfl, hc5, hm5, hR5, hb5⟩; have h5 := h4.below hb5; clear h4 hb5 hR5)))
  go_ret
  exact ⟨rfl, h5.b⟩
end Go.Proofs.Ytbaeemonkgllhaa
