/- osierlaw10.made, osierlaw10.awake; sound over an arena that a law holds. -/
import Derived.Test.YtbmlpdkbiipcmaaSoG
import Derived.Test.YtbmlpdkbiipcmaaSoP
import Derived.Test.YtbmlpdkbiipcmaaSoW
import Derived.Test.YtbmlpdkbiipcmaaLkMade
namespace Go.Proofs.Ytbmlpdkbiipcmaa
open Go.RowKit
set_option linter.all false

section
variable {w0 w : World} {p : Nat} {room st : Int} {L : List It}
theorem tmay (h : Held w0 w p room st L) (t : Int) (B : Bool) (hB : mayL L t = B) :
    Calls Try.prog 10 #[.pointer (some ⟨p, 0, none⟩), .int .i64 t] w fun e w' => e = .returned (.bool B) ∧ Below w.heap.size w w' := smay_any h.a t B hB
theorem tsame (h : Held w0 w p room st L) {t u : Int} {l m : List Pr} (tl : Tree L t l) (tm : Tree L u m) (sl : Srt l) (sm : Srt m) (rl : Rng l) (rm : Rng m) (hl : l.length ≤ 1000) (hm : m.length ≤ 1000) (B : Bool) (hB : decide (l = m) = B) :
    Calls Try.prog 11 #[.pointer (some ⟨p, 0, none⟩), .int .i64 t, .int .i64 u] w fun e w' => e = .returned (.bool B) ∧ Below w.heap.size w w' := ssame_any h.a t u l m tl tm sl sm rl rm hl hm B hB
end
theorem Rng.nil : Rng [] := fun _ h => by simp at h

set_option maxRecDepth 100000 in
set_option maxHeartbeats 1600000 in
theorem made10_any (w : World) : Calls Try.prog 34 #[] w (MadeSays w) := by
  have c1 := new_any 100 w
  rw [show min (max (100 : Int) 0) 60000 = 100 by decide] at c1
  have hA : Arena (w.alloc (.cells #[.int .i64 100, .int .i64 0, .slice none 0 0, .slice none 0 0] 67)) w.heap.size (fun k => k = w.heap.size) 100 0 [] := new_arena 100 w (by decide) (by decide)
  have cl := fun x hx => laid_lit w (w.alloc (.cells #[.int .i64 100, .int .i64 0, .slice none 0 0, .slice none 0 0] 67)) w.heap.size x (by simp) (Nat.le_refl _) ((Below.refl _ _).alloc (Nat.le_refl _) _) hA hx
  have HL := Lib.hid cl
  clear hA cl
  go_enter Try.func34, Try.ntmps34
  go_wp2_with (first
    | (go_at_call 8; ((with_reducible refine c1.mono ?_); clear c1; rintro e w1 ⟨rfl, rfl⟩))
    | (go_at_call 9; (refine (HL.out _ (by simp)).mono ?_; rintro e w2 ⟨t, L, rfl, hH, hl, hT, hG⟩)))
  go_ret2
  exact ⟨_, t, L, rfl, hH, hl, hT, hG⟩

theorem madeL_rng : Rng madeL := by
  intro q hq
  unfold madeL at hq
  simp at hq
  rcases hq with rfl | rfl | rfl <;> exact ⟨by decide, by decide⟩

/-- The node over the made treap, of key 0. -/
theorem made_over {w0 w : World} {p : Nat} {L : List It} {t : Int} (h : Held w0 w p 100 0 L) (hl : L.length = 3) (hT : Tree L t madeL) :
    Calls Try.prog 14 #[.pointer (some ⟨p, 0, none⟩), .agg #[.int .i64 0, .int .i64 0], .int .i64 t, .int .i64 0] w fun e w' =>
      e = .returned (.tuple #[.int .i64 4, .int .i64 0]) ∧ ∃ L', Held w0 w' p 100 0 L' ∧ Tree L' t madeL ∧ mayL L' 4 = false := by
  obtain ⟨hh, h0, h1⟩ := hT.hung (by decide)
  have hi3 := hi_le _ madeL (Nat.le_refl _)
  have h3 : madeL.length = 3 := rfl
  rw [h3] at hi3
  rw [h3] at hh
  refine (nmake_held h 0 0 t 0 _ _ _ _ 4 4 ((hi madeL : Int) + 1) _ hh (Hung.zero L) (by omega) ⟨by omega, by omega⟩ ⟨by omega, by omega⟩ ⟨by omega, by omega⟩ ⟨by omega, by omega⟩ (by omega) (by omega) (by omega) rfl).mono ?_
  rintro e w' ⟨he, hH⟩
  refine ⟨he, _, hH, hT.app _, ?_⟩
  exact may_turned (itemAt_new _ _ _ (by omega)) (hT.app _) .nil (by omega) (by omega) madeL_srt Srt.nil (by decide) (fun z hz => by
    unfold madeL at hz
    simp at hz
    rcases hz with rfl | rfl | rfl <;> decide) (fun z hz => by simp at hz) (.inl (by decide))

set_option maxRecDepth 100000 in
set_option maxHeartbeats 3200000 in
theorem sawake_any (w : World) : Calls Try.prog 13 #[] w fun e w' => e = .returned (.bool true) ∧ Below w.heap.size w w' := by
  have cm := made10_any w
  go_enter Try.func13, Try.ntmps13
  go_wp2_with (first
    | (go_at_call 34; ((with_reducible refine cm.mono ?_); clear cm; rintro e W1 ⟨p, t, L, rfl, h1, hl, hT, hG⟩; have co := made_over h1 hl hT; clear hT hG hl h1))
    | (go_at_call 14; ((with_reducible refine co.mono ?_); clear co; rintro e W2 ⟨rfl, L2, h2, hT2, hM2⟩; have HT := Lib.hid hT2; have HM := Lib.hid hM2; clear hT2 hM2))
    | (go_at_call 10; have cc := tmay h2 t true (may_tree HT.out madeL_srt (by decide)); ((with_reducible refine cc.mono ?_); clear cc; rintro e W3 ⟨rfl, hb3⟩; have h3 := h2.below hb3; clear h2 hb3))
    | (go_at_call 10; have cc := tmay h3 4 false HM.out; ((with_reducible refine cc.mono ?_); clear cc; rintro e W4 ⟨rfl, hb4⟩; have h4 := h3.below hb4; clear h3 hb4))
    | (go_at_call 11; have cc := tsame h4 HT.out HT.out madeL_srt madeL_srt madeL_rng madeL_rng (by decide) (by decide) true (decide_eq_true rfl); ((with_reducible refine cc.mono ?_); clear cc; rintro e W5 ⟨rfl, hb5⟩; have h5 := h4.below hb5; clear h4 hb5))
    | (go_at_call 11; have cc := tsame h5 HT.out .nil madeL_srt Srt.nil madeL_rng Rng.nil (by decide) (by decide) false (by decide); ((with_reducible refine cc.mono ?_); clear cc; rintro e W6 ⟨rfl, hb6⟩; have h6 := h5.below hb6; clear h5 hb6))
    | (go_at_call 10; have cc := tmay h6 0 true (if_pos rfl); ((with_reducible refine cc.mono ?_); clear cc; rintro e W7 ⟨rfl, hb7⟩; have h7 := h6.below hb7; clear h6 hb7)))
  go_ret
  exact ⟨rfl, h7.b⟩
end Go.Proofs.Ytbmlpdkbiipcmaa
