/- 'osierlaw5.PutGets' returns true for every argument. No condition. -/
import Derived.Test.YtdonidohmenccaaRows
import Derived.Test.YtdonidohmenccaaPtM
import Derived.Test.YtdonidohmenccaaPtAwk
import Derived.Test.YtdonidohmenccaaNArgs
import Derived.Test.YtdonidohmenccaaNSays
import Derived.LoopTactic
import Derived.WalkKit
import Derived.ProofKit
import Derived.OpenShut
import Derived.ChangeOld
import Derived.Below
namespace Go.Proofs.Ytdonidohmenccaa.putGets
open Go.ChangeShapes Go.WideShapes Go.ChangeAt Go.RowKit
set_option linter.all false

theorem own : ownKnob Try.prog.godebug = none := by kernel_rfl
theorem laidOut : laidOutB Try.prog = true := by kernel_rfl



set_option maxRecDepth 100000 in
set_option maxHeartbeats 12800000 in
theorem walk (a0 : Option Addr) (cap0 : Nat) (z0 : List Pr) (k1 v1 : Int) (a2 : Int) (w : World) (w0 : Prs w a0 cap0 z0) (r0 : Rng z0) (w1 : (Lit.int .i64 k1).wf = true ∧ (Lit.int .i64 v1).wf = true) (w2 : (Lit.int .i64 a2).wf = true) :
    Calls Try.prog 6 #[.slice a0 z0.length cap0, .agg #[.int .i64 k1, .int .i64 v1], .int .i64 a2] w fun e w' => e = .returned (.bool true) ∧ Below w.heap.size w w' := by
  have cp : ∀ W, Below w.heap.size w W → Calls Try.prog 12 #[.slice a0 z0.length cap0, .int .i64 40] W (PairsIs W 40) := fun W hb => pairs_srt a0 cap0 z0 40 W (w0.below hb) r0 (by omega)
  have ba : ∀ o, Below w.heap.size w (w.alloc o) := fun o => (Below.refl _ _).alloc (Nat.le_refl _) _
  have BA := Lib.hid ba
  have T0 := Two.new w k1 v1 24
  clear w0 r0 w1 ba
  go_enter Try.func6, Try.ntmps6
  go_wp2_with (fail)
  refine (cp _ (BA.out _)).mono ?_
  clear cp
  rintro e W2 ⟨ao, c, l, rfl, hl, hs, hr, hP, hbw⟩
  have T2 := T0.keep hbw
  have HBW := Lib.hid ((BA.out _).trans (hbw.mono (BA.out _).size))
  have HP := Lib.hid hP
  have HS := Lib.hid hs
  have hhi := hi_le _ l (Nat.le_refl _)
  have HHI := Lib.hid hhi
  obtain ⟨b, hb⟩ : ∃ b, (findL l k1).isSome = b := ⟨_, rfl⟩
  obtain ⟨old, hold⟩ : ∃ v, ((findL l k1).map (·.2)).getD 0 = v := ⟨_, rfl⟩
  have HB := Lib.hid hb
  have HO := Lib.hid hold
  have CNT := Lib.hid (withL_count hs k1 v1 b hb)
  have TW := Lib.hid (withL_twice hs k1 v1 v1)
  have F1 := Lib.hid (findL_with hs k1 v1)
  have S1 := Lib.hid (withL_is_srt l k1 v1 hs)
  have L1 := Lib.hid (withL_le hs k1 v1)
  have H1 := Lib.hid (hi_le _ (withL l k1 v1) (Nat.le_refl _))
  obtain ⟨y0, hy⟩ : ∃ v, ((findL (withL l k1 v1) a2).map (·.2)).getD 0 = v := ⟨_, rfl⟩
  obtain ⟨i0, hi0⟩ : ∃ v, (findL (withL l k1 v1) a2).isSome = v := ⟨_, rfl⟩
  obtain ⟨z, i1, hz, hi1, hcase⟩ : ∃ (z : Int) (i1 : Bool), ((findL l a2).map (·.2)).getD 0 = z ∧ (findL l a2).isSome = i1 ∧ ((a2 != k1) = false ∨ ((a2 != k1) = true ∧ y0 = z ∧ i0 = i1)) := by
    refine ⟨_, _, rfl, rfl, ?_⟩
    by_cases h : a2 = k1
    · exact .inl (by simp [h])
    · refine .inr ⟨by simpa using h, ?_, ?_⟩
      · rw [← hy, findL_other hs k1 v1 h]
      · rw [← hi0, findL_other hs k1 v1 h]
  have HY := Lib.hid (And.intro hy hi0)
  have HZ := Lib.hid (And.intro hz hi1)
  clear hb hold hy hi0 hz hi1
  clear hP hs hr hbw T0 hhi BA
  have hb2 : b = false ∨ b = true := by cases b <;> simp
  have CASES := Lib.hid (And.intro hcase hb2)
  clear hcase hb2
  go_wp2_with (first
    | (go_at_call 13; ((with_reducible refine (new_held 1000 1000 W2 _ (Below.refl _ _) (by decide)).mono ?_); rintro e W3 ⟨p, rfl, h1⟩))
    | (go_at_call 14; ((with_reducible refine (laid_any W2 p _ _ _ ao c l _ [] (Nat.le_refl _) HP.out h1 Good.nil (by simp; omega) (by omega)).mono ?_); rintro e W4 ⟨t, L, rfl, h4, n4, t4, g4⟩; rw [List.nil_append] at h4 t4; have T4 := Lib.hid t4; have N4 := Lib.hid n4; have d0 := h4.old T2.c0; have d1 := h4.old T2.c1; clear t4 g4 h1 n4)))
  refine (put_ok h4 T4.out HS.out (by omega) (by rw [N4.out]; have := HHI.out; omega) k1 v1 old b HO.out HB.out).mono ?_
  rintro e W5 ⟨u, M, rfl, h5, hM, hT⟩
  have T5 := Lib.hid hT
  have M5 := Lib.hid hM
  have d0 := h5.old T2.c0
  have d1 := h5.old T2.c1
  clear hT hM h4
  go_wp2_with (fail)
  refine (put_ok h5 T5.out S1.out (by have := L1.out; omega) (by rw [List.length_append, N4.out]; have := HHI.out; have := H1.out; have := L1.out; have := M5.out; omega) k1 v1 v1 true (by rw [F1.out]; rfl) (by rw [F1.out]; rfl)).mono ?_
  rintro e W6 ⟨v, M2, rfl, h6, hM, hT⟩
  rw [TW.out] at hT
  have T6 := Lib.hid hT
  have d0 := h6.old T2.c0
  have d1 := h6.old T2.c1
  clear hT hM h5
  go_wp2_with (fail)
  refine (tget h6 (T5.out.app M2) S1.out k1 v1 true (by rw [F1.out]; rfl) (by rw [F1.out]; rfl)).mono ?_
  rintro e W7 ⟨rfl, hb7⟩
  have h7 := h6.below hb7
  have d0 := h7.old T2.c0
  have d1 := h7.old T2.c1
  clear hb7 h6
  go_wp2_with (fail)
  refine (tget h7 (T5.out.app M2) S1.out a2 y0 i0 HY.out.1 HY.out.2).mono ?_
  rintro e W8 ⟨rfl, hb8⟩
  have h8 := h7.below hb8
  have d0 := h8.old T2.c0
  have d1 := h8.old T2.c1
  clear hb8 h7
  go_wp2_with (fail)
  refine (tget h8 ((T4.out.app M).app M2) HS.out a2 z i1 HZ.out.1 HZ.out.2).mono ?_
  rintro e W9 ⟨rfl, hb9⟩
  have h9 := h8.below hb9
  have d0 := h9.old T2.c0
  have d1 := h9.old T2.c1
  clear hb9 h8
  obtain ⟨hcase, hb2⟩ := CASES.out
  clear CASES
  have hc0 := HP.out.1
  have hcm := HP.out.2.1
  unfold maxLen at hcm
  have hself : (v1 != v1) = false := by simp
  rcases hcase with hne | ⟨hne, rfl, rfl⟩ <;> rcases hb2 with rfl | rfl
  all_goals (
    have CN := CNT.out
    simp only [if_true, if_false, Bool.false_eq_true] at CN
    have CN2 := Lib.hid CN
    clear CN CNT
    have hzz : (y0 != y0) = false := by simp
    have hii : (i0 != i0) = false := by simp
    go_wp2_with (first
      | (go_at_call 26; (first | (with_reducible refine (tsize h9 (T5.out.app M2) ((l.length : Int) + 1) (by have := CN2.out; omega)).mono ?_) | (with_reducible refine (tsize h9 (T5.out.app M2) (l.length : Int) (by have := CN2.out; omega)).mono ?_)); rintro e W10 ⟨rfl, hb10⟩; have h10 := h9.below hb10; have d0 := h10.old T2.c0; have d1 := h10.old T2.c1; clear hb10 h9)
      | (go_at_call 19; ((with_reducible refine (with_is ao c l k1 v1 W10 (HP.out.below h10.b) (by omega)).mono ?_); rintro e W11 ⟨⟨aw, cw, rfl, hPw, hb11⟩, _⟩; have h11 := h10.below hb11; have PW := Lib.hid hPw; clear hb11 h10 hPw))
      | (go_at_call 20; ((with_reducible refine (says_any p _ 1000 0 (L ++ M ++ M2) v (withL l k1 v1) T6.out aw cw W11 PW.out h11.a (by have := L1.out; omega)).mono ?_); rintro e W12 ⟨rfl, hb12⟩; have h12 := h11.below hb12; clear hb12 h11))
      | (go_at_call 23; ((with_reducible refine (pawake_any W12).mono ?_); rintro e W13 ⟨rfl, hb13⟩; have h13 := h12.below hb13; clear hb13 h12)))
    go_ret
    exact ⟨rfl, HBW.out.trans (h13.b.mono HBW.out.size)⟩)

set_option maxRecDepth 100000 in
theorem lifted (os : Os) (started : os.Started) (H : Type) (enc : TypeId × Value → H) :
    ReturnsInHanded {} Try.checked os 6 .any (Rows.putGetsSpec.pre6 enc Try.prog Try.f6 Rows.putGetsRow.domain false) (Rows.putGetsSpec.post enc Try.prog Try.f6 false true false false) := by
  refine returnsInHanded_of_change (C := Try.checked) own started (by kernel_rfl) Try.func6
    (ChangeSpec.witness6 (enc := enc) (C := Try.checked) false ⟨#[], #[.slice none 0 0, .agg #[.int .i64 0, .int .i64 0], .int .i64 0], []⟩ 8 (by kernel_rfl) (by kernel_rfl) (by kernel_rfl) (by kernel_rfl)) ?_
  intro W base args ds gs before hval0 hW hcnd _
  have hval : ∀ (j : Nat) t v, Try.f6.params[j]? = some t → args[j]? = some v → Value.okWide Try.prog W .any base t v := hval0
  have hW' := hW
  obtain ⟨p, q, hA0, hV, rfl, hfz, hnd⟩ := hW
  have hA : DataW.TrodAll enc Try.prog W 0 (fun _ => true) true Try.f6.params.toList args.toList ds p := hA0
  rw [Try.params6] at hA hval
  obtain ⟨v0, vs0, d0, ds0, p0, q0, hargs, rfl, rfl, h0, r0⟩ := trodAll_cons hA
  obtain ⟨v1, vs1, d1, ds1, p1, q1, rfl, rfl, rfl, h1, r1⟩ := trodAll_cons r0
  obtain ⟨v2, vs2, d2, ds2, p2, q2, rfl, rfl, rfl, h2, r2⟩ := trodAll_cons r1
  obtain ⟨rfl, rfl, rfl⟩ := trodAll_nil r2
  obtain rfl : args = #[v0, v1, v2] := by cases args; simp_all
  obtain ⟨rfl, rfl⟩ := trodVars_none hV
  have k0 := h0
  have lt0 : ∀ x ∈ p0, x.block < W.heap.size := by obtain ⟨m, hm⟩ := k0; exact DataW.trod_lt m _ _ _ hm
  obtain ⟨b0, l0, c0, rfl⟩ := okWide_slice Try.underlying22 (hval 0 22 v0 rfl rfl)
  obtain ⟨a0, cap0, z0, e0, w0, g0⟩ := open_pairsw (enc := enc) (w := W) (v := .slice b0 l0 c0) (fuel := h0.choose) (by simpa [Value.cells] using h0.choose_spec)
  rw [e0] at hval k0 h0 hW' hval0 hA0
  have k1 := h1
  have lt1 : ∀ x ∈ p1, x.block < W.heap.size := by obtain ⟨m, hm⟩ := k1; exact DataW.trod_lt m _ _ _ hm
  obtain ⟨u1, rfl, _⟩ := okWide_struct Try.underlying24 (hval 1 24 v1 rfl rfl)
  obtain ⟨k1_, v1_, e1, w1⟩ := fields_pairw (enc := enc) (w := W) (cs := u1.toList) (fuel := h1.choose) (by simpa [Value.cells] using h1.choose_spec)
  obtain rfl : u1 = #[.int .i64 k1_, .int .i64 v1_] := by cases u1; simp_all
  have k2 := h2
  have lt2 : ∀ x ∈ p2, x.block < W.heap.size := by obtain ⟨m, hm⟩ := k2; exact DataW.trod_lt m _ _ _ hm
  obtain ⟨a2, rfl, rfl, rfl, w2⟩ := open_int Try.underlying3 (hval 2 3 v2 rfl rfl) h2
  clear hA0 hval0
  rw [e0]; refine (walk a0 cap0 z0 k1_ v1_ a2 W w0 g0 w1 w2).mono fun e W' ⟨he, bel⟩ => ?_
  subst he
  exact ⟨_, rfl, _, _, _, [], _, [], hW', trodAll_mk1 (shut_bool Try.underlying4 _), (trodAll_cons_mk (Below.trod laidOut (by kernel_rfl) (of_decide_eq_true (by kernel_rfl)) k0 bel lt0) (trodAll_cons_mk (Below.trod laidOut (by kernel_rfl) (of_decide_eq_true (by kernel_rfl)) k1 bel lt1) (trodAll_cons_mk (Below.trod laidOut (by kernel_rfl) (of_decide_eq_true (by kernel_rfl)) k2 bel lt2) trodAll_mk0))), rfl, bel.frame _, fun h => by cases h⟩

theorem over : Rows.putGetsRow.holds Try.pinned (OpenSpec.ofChange Rows.putGetsSpec) :=
  OpenClaim.holds_of_wide 6 Try.f6 rfl rfl rfl rfl rfl rfl rfl ⟨rfl, rfl, rfl, rfl, rfl⟩ rfl rfl rfl rfl rfl (by kernel_rfl) Try.func6 (by kernel_rfl)
    (of_decide_eq_true (by kernel_rfl)) (by unfold Func.isWrapper; first | (rw [if_pos (by decide +kernel)]; kernel_rfl) | (rw [if_neg (by decide +kernel)]; exact ⟨rfl, rfl⟩))
    (fun os started H enc _ => lifted os started H enc)

theorem putGetsHolds : Rows.PutGetsSaid := over
#print axioms putGetsHolds
end Go.Proofs.Ytdonidohmenccaa.putGets
