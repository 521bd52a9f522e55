/- osierlaw5.awake. -/
import Derived.Test.YtdonidohmenccaaPtG
import Derived.Test.YtdonidohmenccaaLkMade
namespace Go.Proofs.Ytdonidohmenccaa
open Go.RowKit
set_option linter.all false

theorem lit_two (w : World) : Prs (w.alloc (.cells #[.int .i64 4, .int .i64 0, .int .i64 3, .int .i64 0] 24)) (some ⟨w.heap.size, 0, none⟩) 2 [(4, 0), (3, 0)] := by
  refine ⟨by decide, by unfold maxLen; decide, fun n q hq => ⟨w.heap.size, 0, rfl, ?_⟩⟩
  match n with
  | 0 => simp at hq; subst hq; simp
  | 1 => simp at hq; subst hq; simp
  | n + 2 => simp at hq

set_option maxRecDepth 100000 in
set_option maxHeartbeats 3200000 in
theorem pawake_any (w : World) : Calls Try.prog 23 #[] w fun e w' => e = .returned (.bool true) ∧ Below w.heap.size w w' := by
  have cm := made_any w
  have e1 : withL madeL 2 9 = [(1, 5), (2, 9), (3, 7)] := by rw [withL_cat madeL_srt]; rfl
  have E1 := Lib.hid e1
  have s2 := Lib.hid (withL_is_srt madeL 2 9 madeL_srt)
  have hm := hi_le _ madeL (Nat.le_refl _)
  have HM := Lib.hid (show hi madeL ≤ 3 from hm)
  have e2 : (putL [] [(4, 0), (3, 0)]).length = 2 := by rfl
  have E2 := Lib.hid e2
  have ps := putL_srt [(4, 0), (3, 0)] Srt.nil
  clear e1 hm e2
  go_enter Try.func23, Try.ntmps23
  go_wp2_with (first
    | (go_at_call 41; ((with_reducible refine cm.mono ?_); clear cm; rintro e W1 ⟨p, t, L, rfl, h1, hl, hT, hG⟩; have HT := Lib.hid hT; have HL := Lib.hid hl; clear hT hG hl))
    | (go_at_call 17; have cc := put_ok h1 HT.out madeL_srt (by decide) (by rw [HL.out]; have := HM.out; omega) 2 9 6 true rfl rfl; ((with_reducible refine cc.mono ?_); clear cc; rintro e W2 ⟨u, M, rfl, h2, hM, hT2⟩; have HT2 := Lib.hid hT2; have HM2 := Lib.hid hM; clear hM hT2 h1))
    | (go_at_call 24; have cc := of_ok (h2.alloc (.cells #[.int .i64 4, .int .i64 0, .int .i64 3, .int .i64 0] 24)) (h2.a.fresh (.cells #[.int .i64 4, .int .i64 0, .int .i64 3, .int .i64 0] 24)) (fun k hk => hk.1) (some ⟨W2.heap.size, 0, none⟩) 2 2 [(4, 0), (3, 0)] (lit_two W2) rfl (fun b o e => by cases e; exact fun h => h.2 rfl) (by decide) (by rw [List.length_append, HL.out]; have := HM.out; have := HM2.out; simp; omega); ((with_reducible refine cc.mono ?_); clear cc; rintro e W3 ⟨z, M3, rfl, h3, hM3, hT3⟩; have HT3 := Lib.hid hT3; clear hM3 hT3 h2))
    | (go_at_call 25; have cc := tget h3 (HT2.out.app M3) s2.out 2 9 true (by rw [E1.out]; rfl) (by rw [E1.out]; rfl); ((with_reducible refine cc.mono ?_); clear cc; rintro e W4 ⟨rfl, hb4⟩; have h4 := h3.below hb4; clear h3 hb4))
    | (go_at_call 26; have cc := tsize h4 HT3.out 2 (by rw [E2.out]; rfl); ((with_reducible refine cc.mono ?_); clear cc; rintro e W5 ⟨rfl, hb5⟩; have h5 := h4.below hb5; clear h4)))
  go_ret
  exact ⟨rfl, h5.b⟩
end Go.Proofs.Ytdonidohmenccaa
