/- 'osierlaw7.PartMiddle' returns true for every argument. No condition. -/
import Derived.Test.YtdonidohmenccaaRows
import Derived.Test.YtdonidohmenccaaPaAwk
import Derived.Test.YtdonidohmenccaaNArgs
import Derived.Test.YtdonidohmenccaaNSays
import Derived.LoopTactic
import Derived.WalkKit
import Derived.ProofKit
import Derived.OpenShut
import Derived.ChangeOld
import Derived.Below
namespace Go.Proofs.Ytdonidohmenccaa.partMiddle
open Go.ChangeShapes Go.WideShapes Go.ChangeAt Go.RowKit
set_option linter.all false

theorem own : ownKnob Try.prog.godebug = none := by kernel_rfl
theorem laidOut : laidOutB Try.prog = true := by kernel_rfl



set_option maxRecDepth 100000 in
set_option maxHeartbeats 12800000 in
theorem walk (a0 : Option Addr) (cap0 : Nat) (z0 : List Pr) (w : World) (w0 : Prs w a0 cap0 z0) (r0 : Rng z0) :
    Calls Try.prog 10 #[.slice a0 z0.length cap0] w fun e w' => e = .returned (.bool true) ∧ Below w.heap.size w w' := by
  have cp : ∀ W, Below w.heap.size w W → Calls Try.prog 12 #[.slice a0 z0.length cap0, .int .i64 50] W (PairsIs W 50) := fun W hb => pairs_srt a0 cap0 z0 50 W (w0.below hb) r0 (by omega)
  clear w0 r0
  go_enter Try.func10, Try.ntmps10
  go_wp2_with (fail)
  refine (cp _ (Below.refl _ _)).mono ?_
  clear cp
  rintro e W2 ⟨ao, c, l, rfl, hl, hs, hr, hP, hbw⟩
  have HBW := Lib.hid hbw
  have HP := Lib.hid hP
  have HS := Lib.hid hs
  have hhi := hi_le _ l (Nat.le_refl _)
  have HHI := Lib.hid hhi
  have hc1 := hP.1
  have hc2 := hP.2.1
  unfold maxLen at hc2
  clear hP hs hr hbw hhi
  go_wp2_with (fail)
  refine (new_held 300 300 W2 _ (Below.refl _ _) (by decide)).mono ?_
  rintro e W3 ⟨p, rfl, h1⟩
  go_wp2_with (fail)
  refine (laid_any W2 p _ _ _ ao c l _ [] (Nat.le_refl _) HP.out h1 Good.nil (by simp; omega) (by omega)).mono ?_
  rintro e W4 ⟨t, L, rfl, h4, n4, t4, g4⟩
  rw [List.nil_append] at h4 t4
  have T4 := Lib.hid t4
  have N4 := Lib.hid n4
  clear t4 g4 h1 n4
  by_cases h2 : l.length < 2
  · have hd : decide ((l.length : Int) < 2) = true := by rw [decide_eq_true_iff]; omega
    clear h2
    go_wp2_with (go_at_call 32; ((with_reducible refine (hawake_any W4).mono ?_); rintro e W14 ⟨rfl, hb14⟩; have h14 := h4.below hb14; clear hb14 h4))
    go_ret
    exact ⟨rfl, HBW.out.trans (h14.b.mono HBW.out.size)⟩
  have hd : decide ((l.length : Int) < 2) = false := by rw [decide_eq_false_iff_not]; omega
  obtain ⟨k, v, hq⟩ : ∃ k v, l[l.length / 2]? = some (k, v) := ⟨_, _, List.getElem?_eq_getElem (by omega)⟩
  obtain ⟨qk, qv, hq2⟩ : ∃ k v, l[l.length / 2 - 1]? = some (k, v) := ⟨_, _, List.getElem?_eq_getElem (by omega)⟩
  have hlt := HS.out.at _ _ _ _ (by omega) hq2 hq
  dsimp only at hlt
  have EX := Lib.hid (lo_take HS.out hq)
  have EY := Lib.hid (ge_drop HS.out hq)
  dsimp only at EX EY
  have LX := Lib.hid (show (l.take (l.length / 2)).length = l.length / 2 by rw [List.length_take]; omega)
  have LY := Lib.hid (show (l.drop (l.length / 2)).length = l.length - l.length / 2 by rw [List.length_drop])
  have FX := Lib.hid (show (l.take (l.length / 2))[(l.take (l.length / 2)).length - 1]? = some (qk, qv) by rw [LX.out, List.getElem?_take_of_lt (by omega), hq2])
  have FY := Lib.hid (show (l.drop (l.length / 2))[0]? = some (k, v) by rw [List.getElem?_drop, Nat.add_zero, hq])
  have HQ := Lib.hid hq
  have hlq : decide (qk < k) = true := decide_eq_true hlt
  clear hq hq2 hlt
  obtain ⟨n, hn⟩ : ∃ n : Int, ((l.length / 2 : Nat) : Int) = n := ⟨_, rfl⟩
  obtain ⟨m, hm⟩ : ∃ m : Int, ((l.length - l.length / 2 : Nat) : Int) = m := ⟨_, rfl⟩
  have hnm : n + m = (l.length : Int) := by omega
  have hmn : m = n ∨ m = n + 1 := by omega
  have hn0 : 0 ≤ n := by omega
  have hm0 : 0 ≤ m := by omega
  go_wp2_with (fail)
  refine (half_ok h4 T4.out HS.out (by omega) (by rw [N4.out]; have := HHI.out; omega) (by omega) HQ.out).mono ?_
  rintro e W5 ⟨x, y, M, rfl, h5, hM, hX, hY⟩
  rw [EX.out] at hX
  rw [EY.out] at hY
  have TX := Lib.hid hX
  have TY := Lib.hid hY
  clear hM hX hY h4
  go_wp2_with (fail)
  refine (tmin h5 TY.out k v true (by rw [FY.out]; rfl) (by rw [FY.out]; rfl)).mono ?_
  rintro e W6 ⟨rfl, hb6⟩
  have U6 := Lib.hid (Two.new W6 k v 24)
  have h6 := (h5.below hb6).alloc (.cells #[.int .i64 k, .int .i64 v] 24)
  clear hb6 h5
  go_wp2_with (fail)
  refine (tmax h6 TX.out qk qv true (by rw [FX.out]; rfl) (by rw [FX.out]; rfl)).mono ?_
  rintro e W7 ⟨rfl, hb7⟩
  have U6 := Lib.hid ((U6.out.keep hb7).past (.cells #[.int .i64 qk, .int .i64 qv] 24))
  have U7 := Lib.hid (Two.new W7 qk qv 24)
  have h7 := (h6.below hb7).alloc (.cells #[.int .i64 qk, .int .i64 qv] 24)
  clear hb7 h6
  go_wp2_with (fail)
  refine (tsize h7 TX.out n (by rw [LX.out]; exact hn)).mono ?_
  rintro e W8 ⟨rfl, hb8⟩
  have U6 := Lib.hid (U6.out.keep hb8)
  have U7 := Lib.hid (U7.out.keep hb8)
  have h8 := h7.below hb8
  clear hb8 h7
  go_wp2_with (fail)
  refine (tsize h8 TY.out m (by rw [LY.out]; exact hm)).mono ?_
  rintro e W9 ⟨rfl, hb9⟩
  have U6 := Lib.hid (U6.out.keep hb9)
  have U7 := Lib.hid (U7.out.keep hb9)
  have h9 := h8.below hb9
  clear hb9 h8 hn hm
  obtain ⟨c0, c1⟩ := U6.out
  obtain ⟨c2, c3⟩ := U7.out
  have hwn : wrap64 (n + m) = (l.length : Int) := by unfold wrap64; omega
  rcases hmn with hmn | hmn
  · subst hmn
    go_wp2_with (go_at_call 32; ((with_reducible refine (hawake_any W9).mono ?_); rintro e W14 ⟨rfl, hb14⟩; have h14 := h9.below hb14; clear hb14 h9))
    go_ret
    exact ⟨rfl, HBW.out.trans (h14.b.mono HBW.out.size)⟩
  · subst hmn
    have hne : (n + 1 == n) = false := by rw [beq_eq_false_iff_ne]; omega
    go_wp2_with (go_at_call 32; ((with_reducible refine (hawake_any W9).mono ?_); rintro e W14 ⟨rfl, hb14⟩; have h14 := h9.below hb14; clear hb14 h9))
    go_ret
    exact ⟨rfl, HBW.out.trans (h14.b.mono HBW.out.size)⟩

set_option maxRecDepth 100000 in
theorem lifted (os : Os) (started : os.Started) (H : Type) (enc : TypeId × Value → H) :
    ReturnsInHanded {} Try.checked os 10 .any (Rows.partMiddleSpec.pre6 enc Try.prog Try.f10 Rows.partMiddleRow.domain false) (Rows.partMiddleSpec.post enc Try.prog Try.f10 false true false false) := by
  refine returnsInHanded_of_change (C := Try.checked) own started (by kernel_rfl) Try.func10
    (ChangeSpec.witness6 (enc := enc) (C := Try.checked) false ⟨#[], #[.slice none 0 0], []⟩ 8 (by kernel_rfl) (by kernel_rfl) (by kernel_rfl) (by kernel_rfl)) ?_
  intro W base args ds gs before hval0 hW hcnd _
  have hval : ∀ (j : Nat) t v, Try.f10.params[j]? = some t → args[j]? = some v → Value.okWide Try.prog W .any base t v := hval0
  have hW' := hW
  obtain ⟨p, q, hA0, hV, rfl, hfz, hnd⟩ := hW
  have hA : DataW.TrodAll enc Try.prog W 0 (fun _ => true) true Try.f10.params.toList args.toList ds p := hA0
  rw [Try.params10] at hA hval
  obtain ⟨v0, vs0, d0, ds0, p0, q0, hargs, rfl, rfl, h0, r0⟩ := trodAll_cons hA
  obtain ⟨rfl, rfl, rfl⟩ := trodAll_nil r0
  obtain rfl : args = #[v0] := by cases args; simp_all
  obtain ⟨rfl, rfl⟩ := trodVars_none hV
  have k0 := h0
  have lt0 : ∀ x ∈ p0, x.block < W.heap.size := by obtain ⟨m, hm⟩ := k0; exact DataW.trod_lt m _ _ _ hm
  obtain ⟨b0, l0, c0, rfl⟩ := okWide_slice Try.underlying22 (hval 0 22 v0 rfl rfl)
  obtain ⟨a0, cap0, z0, e0, w0, g0⟩ := open_pairsw (enc := enc) (w := W) (v := .slice b0 l0 c0) (fuel := h0.choose) (by simpa [Value.cells] using h0.choose_spec)
  rw [e0] at hval k0 h0 hW' hval0 hA0
  clear hA0 hval0
  rw [e0]; refine (walk a0 cap0 z0 W w0 g0).mono fun e W' ⟨he, bel⟩ => ?_
  subst he
  exact ⟨_, rfl, _, _, _, [], _, [], hW', trodAll_mk1 (shut_bool Try.underlying4 _), (trodAll_cons_mk (Below.trod laidOut (by kernel_rfl) (of_decide_eq_true (by kernel_rfl)) k0 bel lt0) trodAll_mk0), rfl, bel.frame _, fun h => by cases h⟩

theorem over : Rows.partMiddleRow.holds Try.pinned (OpenSpec.ofChange Rows.partMiddleSpec) :=
  OpenClaim.holds_of_wide 10 Try.f10 rfl rfl rfl rfl rfl rfl rfl ⟨rfl, rfl, rfl, rfl, rfl⟩ rfl rfl rfl rfl rfl (by kernel_rfl) Try.func10 (by kernel_rfl)
    (of_decide_eq_true (by kernel_rfl)) (by unfold Func.isWrapper; first | (rw [if_pos (by decide +kernel)]; kernel_rfl) | (rw [if_neg (by decide +kernel)]; exact ⟨rfl, rfl⟩))
    (fun os started H enc _ => lifted os started H enc)

theorem partMiddleHolds : Rows.PartMiddleSaid := over
#print axioms partMiddleHolds
end Go.Proofs.Ytdonidohmenccaa.partMiddle
