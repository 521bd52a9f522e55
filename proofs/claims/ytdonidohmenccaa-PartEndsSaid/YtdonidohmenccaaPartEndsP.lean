/- 'osierlaw7.PartEnds' returns true for every argument. No condition. -/
import Derived.Test.YtdonidohmenccaaRows
import Derived.Test.YtdonidohmenccaaPaAwk
import Derived.Test.YtdonidohmenccaaNArgs
import Derived.Test.YtdonidohmenccaaNSays
import Derived.LoopTactic
import Derived.WalkKit
import Derived.ProofKit
import Derived.OpenShut
import Derived.ChangeOld
import Derived.Below
namespace Go.Proofs.Ytdonidohmenccaa.partEnds
open Go.ChangeShapes Go.WideShapes Go.ChangeAt Go.RowKit
set_option linter.all false

theorem own : ownKnob Try.prog.godebug = none := by kernel_rfl
theorem laidOut : laidOutB Try.prog = true := by kernel_rfl

theorem tree_zero {L : List It} {t : Int} {l : List Pr} (T : Tree L t l) (h : l = []) : t = 0 := by
  subst h
  cases T with
  | nil => rfl
  | node _ _ _ _ i q _ h2 => simp at h2
theorem rng_low {l : List Pr} (h : Rng l) : ∀ z ∈ l, (-9223372036854775808 : Int) ≤ z.1 := by
  intro z hz
  exact (wf_range (h z hz).1).1

set_option maxRecDepth 100000 in
set_option maxHeartbeats 12800000 in
theorem walk (a0 : Option Addr) (cap0 : Nat) (z0 : List Pr) (a1 : Int) (w : World) (w0 : Prs w a0 cap0 z0) (r0 : Rng z0) (w1 : (Lit.int .i64 a1).wf = true) :
    Calls Try.prog 11 #[.slice a0 z0.length cap0, .int .i64 a1] w fun e w' => e = .returned (.bool true) ∧ Below w.heap.size w w' := by
  have cp : ∀ W, Below w.heap.size w W → Calls Try.prog 12 #[.slice a0 z0.length cap0, .int .i64 40] W (PairsIs W 40) := fun W hb => pairs_srt a0 cap0 z0 40 W (w0.below hb) r0 (by omega)
  clear w0 r0
  go_enter Try.func11, Try.ntmps11
  go_wp2_with (fail)
  refine (cp _ (Below.refl _ _)).mono ?_
  clear cp
  rintro e W2 ⟨ao, c, l, rfl, hl, hs, hr, hP, hbw⟩
  have HBW := Lib.hid hbw
  have HP := Lib.hid hP
  have HS := Lib.hid hs
  have hhi := hi_le _ l (Nat.le_refl _)
  have HHI := Lib.hid hhi
  have hlow := rng_low hr
  have EX := Lib.hid (loL_none hlow)
  have EY := Lib.hid (geL_all hlow)
  have hc1 := hP.1
  have hc2 := hP.2.1
  unfold maxLen at hc2
  have SA := Lib.hid (loL_srt hs a1)
  have EA := Lib.hid (loL_all (l := loL l a1) (k := a1) (fun z hz => (loL_mem.1 hz).2))
  have EB := Lib.hid (geL_none (l := loL l a1) (k := a1) (fun z hz => (loL_mem.1 hz).2))
  have hlg := loge_len l a1
  obtain ⟨nA, hnA⟩ : ∃ nA : Nat, (loL l a1).length = nA := ⟨_, rfl⟩
  obtain ⟨nB, hnB⟩ : ∃ nB : Nat, (geL l a1).length = nB := ⟨_, rfl⟩
  rw [hnA, hnB] at hlg
  have hhA := hi_le _ (loL l a1) (Nat.le_refl _)
  rw [hnA] at hhA
  have HHA := Lib.hid hhA
  have NA := Lib.hid hnA
  have NB := Lib.hid hnB
  clear hP hs hr hbw hhi hlow hnA hnB hhA
  go_wp2_with (fail)
  refine (new_held 500 500 W2 _ (Below.refl _ _) (by decide)).mono ?_
  rintro e W3 ⟨p, rfl, h1⟩
  go_wp2_with (fail)
  refine (laid_any W2 p _ _ _ ao c l _ [] (Nat.le_refl _) HP.out h1 Good.nil (by simp; omega) (by omega)).mono ?_
  rintro e W4 ⟨t, L, rfl, h4, n4, t4, g4⟩
  rw [List.nil_append] at h4 t4
  have T4 := Lib.hid t4
  have N4 := Lib.hid n4
  clear t4 g4 h1 n4
  go_wp2_with (fail)
  refine (part_ok h4 T4.out HS.out (by omega) (by rw [N4.out]; have := HHI.out; omega) _).mono ?_
  rintro e W5 ⟨x, y, M, rfl, h5, hM, hX, hY⟩
  rw [EX.out] at hX
  rw [EY.out] at hY
  obtain rfl := tree_zero hX rfl
  have TY := Lib.hid hY
  have L5 := Lib.hid (show (L ++ M).length ≤ 80 by rw [List.length_append, N4.out]; have := HHI.out; omega)
  have T5 := Lib.hid (T4.out.app M)
  clear hM hX hY h4
  generalize L ++ M = L' at h5 L5 T5 TY
  go_wp2_with (fail)
  refine (says_any p _ 500 0 L' y l TY.out ao c W5 (HP.out.below h5.b) h5.a (by omega)).mono ?_
  rintro e W6 ⟨rfl, hb6⟩
  have h6 := h5.below hb6
  clear hb6 h5
  go_wp2_with (fail)
  refine (part_ok h6 T5.out HS.out (by omega) (by have := L5.out; have := HHI.out; omega) a1).mono ?_
  rintro e W7 ⟨u, ww, M, rfl, h7, hM, hX, hY⟩
  have TU := Lib.hid hX
  have TW := Lib.hid hY
  have L7 := Lib.hid (show (L' ++ M).length ≤ 120 by rw [List.length_append]; have := L5.out; have := HHI.out; omega)
  clear hM hX hY h6
  generalize L' ++ M = L7' at h7 L7 TU TW
  go_wp2_with (fail)
  refine (part_ok h7 TU.out SA.out (by rw [NA.out]; omega) (by have := L7.out; have := HHA.out; omega) a1).mono ?_
  rintro e W8 ⟨v, z, M, rfl, h8, hM, hX, hY⟩
  rw [EA.out] at hX
  rw [EB.out] at hY
  obtain rfl := tree_zero hY rfl
  have TV := Lib.hid hX
  have TU2 := Lib.hid (TU.out.app M)
  have TW2 := Lib.hid (TW.out.app M)
  clear hM hX hY h7
  generalize L7' ++ M = L8 at h8 TV TU2 TW2
  have hwn : wrap64 ((nA : Int) + (nB : Int)) = (l.length : Int) := by unfold wrap64; omega
  have hnA0 : (0 : Int) ≤ (nA : Int) := by omega
  have hnB0 : (0 : Int) ≤ (nB : Int) := by omega
  have hself : ((nA : Int) == (nA : Int)) = true := by simp
  have hls : ((l.length : Int) == (l.length : Int)) = true := by simp
  go_wp2_with (fail)
  refine (tsize h8 TV.out nA (by rw [NA.out])).mono ?_
  rintro e W9 ⟨rfl, hb9⟩
  have h9 := h8.below hb9
  clear hb9 h8
  go_wp2_with (fail)
  refine (tsize h9 TU2.out nA (by rw [NA.out])).mono ?_
  rintro e W10 ⟨rfl, hb10⟩
  have h10 := h9.below hb10
  clear hb10 h9
  go_wp2_with (fail)
  refine (tsize h10 TU2.out nA (by rw [NA.out])).mono ?_
  rintro e W11 ⟨rfl, hb11⟩
  have h11 := h10.below hb11
  clear hb11 h10
  go_wp2_with (fail)
  refine (tsize h11 TW2.out nB (by rw [NB.out])).mono ?_
  rintro e W12 ⟨rfl, hb12⟩
  have h12 := h11.below hb12
  clear hb12 h11
  go_wp2_with (fail)
  refine (may_any ao c l W12 (HP.out.below h12.b) HS.out).mono ?_
  rintro e W13 ⟨rfl, hb13⟩
  have h13 := h12.below hb13
  clear hb13 h12
  go_wp2_with (go_at_call 32; ((with_reducible refine (hawake_any W13).mono ?_); rintro e W14 ⟨rfl, hb14⟩; have h14 := h13.below hb14; clear hb14 h13))
  go_ret
  exact ⟨rfl, HBW.out.trans (h14.b.mono HBW.out.size)⟩

set_option maxRecDepth 100000 in
theorem lifted (os : Os) (started : os.Started) (H : Type) (enc : TypeId × Value → H) :
    ReturnsInHanded {} Try.checked os 11 .any (Rows.partEndsSpec.pre6 enc Try.prog Try.f11 Rows.partEndsRow.domain false) (Rows.partEndsSpec.post enc Try.prog Try.f11 false true false false) := by
  refine returnsInHanded_of_change (C := Try.checked) own started (by kernel_rfl) Try.func11
    (ChangeSpec.witness6 (enc := enc) (C := Try.checked) false ⟨#[], #[.slice none 0 0, .int .i64 0], []⟩ 8 (by kernel_rfl) (by kernel_rfl) (by kernel_rfl) (by kernel_rfl)) ?_
  intro W base args ds gs before hval0 hW hcnd _
  have hval : ∀ (j : Nat) t v, Try.f11.params[j]? = some t → args[j]? = some v → Value.okWide Try.prog W .any base t v := hval0
  have hW' := hW
  obtain ⟨p, q, hA0, hV, rfl, hfz, hnd⟩ := hW
  have hA : DataW.TrodAll enc Try.prog W 0 (fun _ => true) true Try.f11.params.toList args.toList ds p := hA0
  rw [Try.params11] at hA hval
  obtain ⟨v0, vs0, d0, ds0, p0, q0, hargs, rfl, rfl, h0, r0⟩ := trodAll_cons hA
  obtain ⟨v1, vs1, d1, ds1, p1, q1, rfl, rfl, rfl, h1, r1⟩ := trodAll_cons r0
  obtain ⟨rfl, rfl, rfl⟩ := trodAll_nil r1
  obtain rfl : args = #[v0, v1] := by cases args; simp_all
  obtain ⟨rfl, rfl⟩ := trodVars_none hV
  have k0 := h0
  have lt0 : ∀ x ∈ p0, x.block < W.heap.size := by obtain ⟨m, hm⟩ := k0; exact DataW.trod_lt m _ _ _ hm
  obtain ⟨b0, l0, c0, rfl⟩ := okWide_slice Try.underlying22 (hval 0 22 v0 rfl rfl)
  obtain ⟨a0, cap0, z0, e0, w0, g0⟩ := open_pairsw (enc := enc) (w := W) (v := .slice b0 l0 c0) (fuel := h0.choose) (by simpa [Value.cells] using h0.choose_spec)
  rw [e0] at hval k0 h0 hW' hval0 hA0
  have k1 := h1
  have lt1 : ∀ x ∈ p1, x.block < W.heap.size := by obtain ⟨m, hm⟩ := k1; exact DataW.trod_lt m _ _ _ hm
  obtain ⟨a1, rfl, rfl, rfl, w1⟩ := open_int Try.underlying3 (hval 1 3 v1 rfl rfl) h1
  clear hA0 hval0
  rw [e0]; refine (walk a0 cap0 z0 a1 W w0 g0 w1).mono fun e W' ⟨he, bel⟩ => ?_
  subst he
  exact ⟨_, rfl, _, _, _, [], _, [], hW', trodAll_mk1 (shut_bool Try.underlying4 _), (trodAll_cons_mk (Below.trod laidOut (by kernel_rfl) (of_decide_eq_true (by kernel_rfl)) k0 bel lt0) (trodAll_cons_mk (Below.trod laidOut (by kernel_rfl) (of_decide_eq_true (by kernel_rfl)) k1 bel lt1) trodAll_mk0)), rfl, bel.frame _, fun h => by cases h⟩

theorem over : Rows.partEndsRow.holds Try.pinned (OpenSpec.ofChange Rows.partEndsSpec) :=
  OpenClaim.holds_of_wide 11 Try.f11 rfl rfl rfl rfl rfl rfl rfl ⟨rfl, rfl, rfl, rfl, rfl⟩ rfl rfl rfl rfl rfl (by kernel_rfl) Try.func11 (by kernel_rfl)
    (of_decide_eq_true (by kernel_rfl)) (by unfold Func.isWrapper; first | (rw [if_pos (by decide +kernel)]; kernel_rfl) | (rw [if_neg (by decide +kernel)]; exact ⟨rfl, rfl⟩))
    (fun os started H enc _ => lifted os started H enc)

theorem partEndsHolds : Rows.PartEndsSaid := over
#print axioms partEndsHolds
end Go.Proofs.Ytdonidohmenccaa.partEnds
