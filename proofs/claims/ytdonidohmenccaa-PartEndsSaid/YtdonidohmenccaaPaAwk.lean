/- osierlaw7.made, osierlaw7.awake. -/
import Derived.Test.YtdonidohmenccaaPaG
import Derived.Test.YtdonidohmenccaaLkMade
import Derived.Test.YtdonidohmenccaaNSays
namespace Go.Proofs.Ytdonidohmenccaa
open Go.RowKit
set_option linter.all false

theorem Tree.pos {L : List It} {t : Int} {l : List Pr} (h : Tree L t l) (hl : l ≠ []) : 0 < t := by
  cases h with
  | nil => exact absurd rfl hl
  | node _ x y _ i q h1 h2 h3 => have := itemAt_range h3; omega
theorem Tree.ne0 {L : List It} {t : Int} {l : List Pr} (h : Tree L t l) (hl : l ≠ []) : (t != 0) = true := by
  have := h.pos hl
  simp; omega
theorem lit_two7 (w : World) : Prs (w.alloc (.cells #[.int .i64 2, .int .i64 6, .int .i64 3, .int .i64 7] 24)) (some ⟨w.heap.size, 0, none⟩) 2 [(2, 6), (3, 7)] := by
  refine ⟨by decide, by unfold maxLen; decide, fun n q hq => ⟨w.heap.size, 0, rfl, ?_⟩⟩
  match n with
  | 0 => simp at hq; subst hq; simp
  | 1 => simp at hq; subst hq; simp
  | n + 2 => simp at hq

set_option maxRecDepth 100000 in
set_option maxHeartbeats 1600000 in
theorem made7_any (w : World) : Calls Try.prog 48 #[] w (MadeSays w) := by
  have c1 := new_any 100 w
  rw [show min (max (100 : Int) 0) 60000 = 100 by decide] at c1
  have hA : Arena (w.alloc (.cells #[.int .i64 100, .int .i64 0, .slice none 0 0, .slice none 0 0] 60)) w.heap.size (fun k => k = w.heap.size) 100 0 [] := new_arena 100 w (by decide) (by decide)
  have cl := fun x hx => laid_lit w (w.alloc (.cells #[.int .i64 100, .int .i64 0, .slice none 0 0, .slice none 0 0] 60)) w.heap.size x (by simp) (Nat.le_refl _) ((Below.refl _ _).alloc (Nat.le_refl _) _) hA hx
  have HL := Lib.hid cl
  clear hA cl
  go_enter Try.func48, Try.ntmps48
  go_wp2_with (first
    | (go_at_call 13; ((with_reducible refine c1.mono ?_); clear c1; rintro e w1 ⟨rfl, rfl⟩))
    | (go_at_call 14; (refine (HL.out _ (by simp)).mono ?_; rintro e w2 ⟨t, L, rfl, hH, hl, hT, hG⟩)))
  go_ret2
  exact ⟨_, t, L, rfl, hH, hl, hT, hG⟩

set_option maxRecDepth 100000 in
set_option maxHeartbeats 3200000 in
theorem hawake_any (w : World) : Calls Try.prog 32 #[] w fun e w' => e = .returned (.bool true) ∧ Below w.heap.size w w' := by
  have cm := made7_any w
  have hm := hi_le _ madeL (Nat.le_refl _)
  have HM := Lib.hid (show hi madeL ≤ 3 from hm)
  have E1 := Lib.hid (show loL madeL 2 = [(1, 5)] from rfl)
  have E2 := Lib.hid (show geL madeL 2 = [(2, 6), (3, 7)] from rfl)
  clear hm
  go_enter Try.func32, Try.ntmps32
  go_wp2_with (first
    | (go_at_call 48; ((with_reducible refine cm.mono ?_); clear cm; rintro e W1 ⟨p, t, L, rfl, h1, hl, hT, hG⟩; have HT := Lib.hid hT; have HL := Lib.hid hl; clear hT hG hl))
    | (go_at_call 31; have cc := half_ok h1 HT.out madeL_srt (by decide) (by rw [HL.out]; have := HM.out; omega) (k := 2) (v := 6) (by decide) rfl; ((with_reducible refine cc.mono ?_); clear cc; rintro e W2 ⟨x, y, M, rfl, h2, hM, hX, hY⟩; rw [E1.out] at hX; rw [E2.out] at hY; have x0 := hX.ne0 (by decide); have y0 := hY.ne0 (by decide); have HY := Lib.hid hY; have HT2 := Lib.hid (HT.out.app M); clear hM hX hY h1))
    | (go_at_call 30; have cc := mid_any h2.a HT2.out (by decide) (q := (2, 6)) (by decide) rfl; ((with_reducible refine cc.mono ?_); clear cc; rintro e W3 ⟨rfl, hb3⟩; have h3 := h2.below hb3; clear h2 hb3))
    | (go_at_call 20; have cc := says_any p _ 100 0 (L ++ M) y [(2, 6), (3, 7)] HY.out (some ⟨W3.heap.size, 0, none⟩) 2 _ (lit_two7 W3) (h3.alloc _).a (by decide); ((refine cc.mono ?_); clear cc; rintro e W4 ⟨rfl, hb4⟩; have h4 := (h3.alloc _).below hb4; clear h3)))
  go_ret
  exact ⟨rfl, h4.b⟩
end Go.Proofs.Ytdonidohmenccaa
