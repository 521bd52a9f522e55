/- StatParts (P12.1): under any policy, from any stat, what befell the leaf (up to 100 things) told in two parts, parted anywhere, leaves the stat that it leaves told in one. No condition. -/
import Derived.Test.YtppahbgoecldmaaRows
import Derived.Test.YtppahbgoecldmaaStW
import Derived.LoopTactic
import Derived.WalkKit
import Derived.ProofKit
import Derived.OpenShut
import Derived.ChangeOld
import Derived.Below
namespace Go.Proofs.Ytppahbgoecldmaa.statParts
open Go.ChangeShapes Go.WideShapes Go.ChangeAt Go.RowKit
set_option linter.all false

theorem own : ownKnob Try.prog.godebug = none := by kernel_rfl
theorem laidOut : laidOutB Try.prog = true := by kernel_rfl

theorem ri_one {w W : World} {b : Nat} {h l c u m : Int} {a : Option Addr} {cap : Nat} {zs : List Int} (R : RI w a cap zs) (H : W.cell? ⟨b, 0, none⟩ = some (.int .i64 h) ∧ W.cell? ⟨b, 1, none⟩ = some (.int .i64 l) ∧ W.cell? ⟨b, 2, none⟩ = some (.int .i64 c) ∧ W.cell? ⟨b, 3, none⟩ = some (.int .i64 u) ∧ W.cell? ⟨b, 4, none⟩ = some (.int .i64 m) ∧ Below w.heap.size w W) : RI W a cap zs := R.below (one_below H)
theorem hm_af (c u m s : Int) (l : List Int) : hm (af c u m s l) = af c u m s l := by
  have := af_bd c u m s l
  unfold hm
  omega
theorem af_parts (c u m s : Int) (l : List Int) (k : Nat) : af c u m (af c u m s (l.take k)) (l.drop k) = af c u m s l := by
  show List.foldl _ (hm (af c u m s (l.take k))) (l.drop k) = _
  rw [hm_af]
  unfold af
  rw [← List.foldl_append, List.take_append_drop]
theorem wrapU64 (a : Int) : IntKind.u64.wrap a = a % 18446744073709551616 := by first | rfl | simp [IntKind.wrap]
/-- int(uint64(a) % uint64(d)). -/
theorem umod (a d : Int) (h : 0 < d) (h2 : d ≤ 9223372036854775807) : ∃ m : Nat, (m : Int) < d ∧ wrap64 ((IntKind.u64.wrap a).tmod d) = m := by
  have h0 : 0 ≤ a % 18446744073709551616 := Int.emod_nonneg _ (by decide)
  have h1 := Int.emod_nonneg (a % 18446744073709551616) (show d ≠ 0 by omega)
  have h3 := Int.emod_lt_of_pos (a % 18446744073709551616) h
  refine ⟨((a % 18446744073709551616) % d).toNat, by omega, ?_⟩
  rw [wrapU64, Int.tmod_eq_emod_of_nonneg h0]
  unfold wrap64
  omega

set_option maxRecDepth 100000 in
set_option maxHeartbeats 12800000 in
theorem walk (h0 l0 c0 u0 m0 : Int) (a1 : Int) (a2 : Option Addr) (cap2 : Nat) (z2 : List Int) (a3 : Int) (w : World) (w1 : (Lit.int .i64 a1).wf = true) (w2 : RI w a2 cap2 z2) (w3 : (Lit.int .i64 a3).wf = true) :
    Calls Try.prog 7 #[.agg #[.int .i64 h0, .int .i64 l0, .int .i64 c0, .int .i64 u0, .int .i64 m0], .int .i64 a1, .slice a2 z2.length cap2, .int .i64 a3] w fun e w' => e = .returned (.bool true) ∧ Below w.heap.size w w' := by
  have HR := Lib.hid w2
  have hc1 := w2.1
  have hc2 := w2.2.1
  unfold maxLen at hc2
  clear w1 w2 w3
  by_cases hbig : 100 < z2.length
  · have hbig' : (100 : Int) < (z2.length : Int) := by omega
    go_enter Try.func7, Try.ntmps7
    go_wp2_with (go_at_call 8; ((with_reducible refine (awake_any _).mono ?_); rintro e w3 ⟨rfl, hb⟩))
    go_ret
    exact ⟨rfl, bst ((Below.refl _ _).alloc (Nat.le_refl _) _) hb⟩
  have hbig' : ¬ (100 : Int) < (z2.length : Int) := by omega
  obtain ⟨x0, x1, x2, x3, x4, HC⟩ : ∃ x0 x1 x2 x3 x4, Hid (Cl h0 l0 c0 u0 m0 x0 x1 x2 x3 x4) := ⟨_, _, _, _, _, Lib.hid ⟨rfl, rfl, rfl, rfl, rfl⟩⟩
  have c3 := fun w R => after_to h0 l0 c0 u0 m0 x0 x1 x2 x3 x4 a1 a2 cap2 z2 HC.out w R
  obtain ⟨s, es⟩ : ∃ s, af x2 x3 x4 a1 z2 = s := ⟨_, rfl⟩
  simp only [es] at c3
  have ES := Lib.hid es
  clear es
  obtain ⟨k, hk, hum⟩ := umod a3 ((z2.length : Int) + 1) (by omega) (by omega)
  have hkl : k ≤ z2.length := by omega
  have c1 : ∀ w, RI w a2 cap2 z2 → Calls Try.prog 13 #[.agg #[.int .i64 h0, .int .i64 l0, .int .i64 c0, .int .i64 u0, .int .i64 m0], .int .i64 a1, .slice a2 k cap2] w fun e w' => e = .returned (.int .i64 (af x2 x3 x4 a1 (z2.take k))) ∧ Below w.heap.size w w' := by
    intro w R
    obtain ⟨e1, R1⟩ := R.take k hkl
    have := after_to h0 l0 c0 u0 m0 x0 x1 x2 x3 x4 a1 a2 cap2 (z2.take k) HC.out w R1
    rwa [e1] at this
  have c2 : ∀ w a n cap, n = z2.length - k → RI w a cap (z2.drop k) → Calls Try.prog 13 #[.agg #[.int .i64 h0, .int .i64 l0, .int .i64 c0, .int .i64 u0, .int .i64 m0], .int .i64 (af x2 x3 x4 a1 (z2.take k)), .slice a n cap] w fun e w' => e = .returned (.int .i64 s) ∧ Below w.heap.size w w' := by
    intro w a n cap e1 R
    have := after_to h0 l0 c0 u0 m0 x0 x1 x2 x3 x4 (af x2 x3 x4 a1 (z2.take k)) a cap (z2.drop k) HC.out w R
    rwa [List.length_drop, ← e1, af_parts, ES.out] at this
  obtain ⟨s1, es1⟩ : ∃ s1, af x2 x3 x4 a1 (z2.take k) = s1 := ⟨_, rfl⟩
  simp only [es1] at c1 c2
  have ES1 := Lib.hid es1
  clear es1
  by_cases hz : z2.length = 0
  · have hk0 : k = 0 := by omega
    subst hk0
    have HN : Hid ((0 : Nat) = z2.length - 0) := Lib.hid (by omega)
    obtain rfl : s1 = s := by
      have e1 := ES1.out
      have e2 := ES.out
      rw [List.length_eq_zero_iff.1 hz] at e1 e2
      exact e1.symm.trans e2
    have HD : Hid (RI w a2 cap2 (z2.drop 0)) := Lib.hid (by rw [List.drop_zero]; exact HR.out)
    rw [hz] at hum c3 ⊢
    clear hk hkl hc1 hz hbig' hbig
    go_enter Try.func7, Try.ntmps7
    go_wp2_with (fail)
    go_region_held3 (fun W => W.cell? ⟨w.heap.size, 0, none⟩ = some (.int .i64 h0) ∧ W.cell? ⟨w.heap.size, 1, none⟩ = some (.int .i64 l0) ∧ W.cell? ⟨w.heap.size, 2, none⟩ = some (.int .i64 c0) ∧ W.cell? ⟨w.heap.size, 3, none⟩ = some (.int .i64 u0) ∧ W.cell? ⟨w.heap.size, 4, none⟩ = some (.int .i64 m0) ∧ Below w.heap.size w W)
      (first | exact one_new _ _ _ _ _ _ _ _ rfl | exact one_keep (by assumption) hb | go_keep)
      (first
        | (go_at_call 13; ((with_reducible refine (c1 _ (ri_one HR.out (by assumption))).mono ?_); rintro e w3 ⟨rfl, hb⟩))
        | (go_at_call 13; ((with_reducible refine (c3 _ (ri_one HR.out (by assumption))).mono ?_); rintro e w3 ⟨rfl, hb⟩))
        | (go_at_call 13; ((with_reducible refine (c2 _ _ _ _ HN.out (ri_one HD.out (by assumption))).mono ?_); rintro e w3 ⟨rfl, hb⟩))
        | (go_at_call 8; ((with_reducible refine (awake_any _).mono ?_); rintro e w3 ⟨rfl, hb⟩)))
    all_goals
      have h9 := one_below (by assumption)
      go_wp2_with (fail)
      go_ret
      exact ⟨rfl, h9⟩
  obtain ⟨v, hv⟩ : ∃ v, z2[0]? = some v := ⟨_, List.getElem?_eq_getElem (by omega)⟩
  obtain ⟨b, o, rfl, -⟩ := HR.out.2.2 0 v hv
  clear hv v hz
  by_cases hck : cap2 = k
  · have hzk : z2.length = k := by omega
    have HN : Hid (0 = z2.length - k) := Lib.hid (by omega)
    obtain rfl : s1 = s := by
      have e1 := ES1.out
      rw [← hzk, List.take_length, ES.out] at e1
      exact e1.symm
    have HD : Hid (RI w (some ⟨b, o, none⟩) 0 (z2.drop k)) := by
      rw [show z2.drop k = [] by rw [← hzk]; exact List.drop_length]
      exact Lib.hid (RI.none w _ _ (Nat.zero_le _))
    subst hck
    rw [hzk] at hum c3 hbig' ⊢
    clear hkl hc1 hk hzk hbig
    go_enter Try.func7, Try.ntmps7
    go_wp2_with (fail)
    go_region_held3 (fun W => W.cell? ⟨w.heap.size, 0, none⟩ = some (.int .i64 h0) ∧ W.cell? ⟨w.heap.size, 1, none⟩ = some (.int .i64 l0) ∧ W.cell? ⟨w.heap.size, 2, none⟩ = some (.int .i64 c0) ∧ W.cell? ⟨w.heap.size, 3, none⟩ = some (.int .i64 u0) ∧ W.cell? ⟨w.heap.size, 4, none⟩ = some (.int .i64 m0) ∧ Below w.heap.size w W)
      (first | exact one_new _ _ _ _ _ _ _ _ rfl | exact one_keep (by assumption) hb | go_keep)
      (first
        | (go_at_call 13; ((with_reducible refine (c1 _ (ri_one HR.out (by assumption))).mono ?_); rintro e w3 ⟨rfl, hb⟩))
        | (go_at_call 13; ((with_reducible refine (c3 _ (ri_one HR.out (by assumption))).mono ?_); rintro e w3 ⟨rfl, hb⟩))
        | (go_at_call 13; ((with_reducible refine (c2 _ _ _ _ HN.out (ri_one HD.out (by assumption))).mono ?_); rintro e w3 ⟨rfl, hb⟩))
        | (go_at_call 8; ((with_reducible refine (awake_any _).mono ?_); rintro e w3 ⟨rfl, hb⟩)))
    all_goals
      have h9 := one_below (by assumption)
      go_wp2_with (fail)
      go_ret
      exact ⟨rfl, h9⟩
  have hck2 : ¬ (cap2 : Int) = (k : Int) := by omega
  have hi0 : (0 : Int) ≤ (k : Int) := by omega
  have hi1 : (k : Int) ≤ (z2.length : Int) := by omega
  have hi2 : (k : Int) ≤ (cap2 : Int) := by omega
  have hi3 : (z2.length : Int) ≤ (cap2 : Int) := by omega
  have HD : Hid (RI w (some ⟨b, o + k, none⟩) (cap2 - k) (z2.drop k)) := by
    obtain ⟨aD, _, RD, ⟨e, _⟩ | ⟨_, rfl⟩⟩ := HR.out.drop k hkl
    · exact absurd e hck
    · exact Lib.hid RD
  go_enter Try.func7, Try.ntmps7
  go_wp2_with (fail)
  go_region_held3 (fun W => W.cell? ⟨w.heap.size, 0, none⟩ = some (.int .i64 h0) ∧ W.cell? ⟨w.heap.size, 1, none⟩ = some (.int .i64 l0) ∧ W.cell? ⟨w.heap.size, 2, none⟩ = some (.int .i64 c0) ∧ W.cell? ⟨w.heap.size, 3, none⟩ = some (.int .i64 u0) ∧ W.cell? ⟨w.heap.size, 4, none⟩ = some (.int .i64 m0) ∧ Below w.heap.size w W)
    (first | exact one_new _ _ _ _ _ _ _ _ rfl | exact one_keep (by assumption) hb | go_keep)
    (first
      | (go_at_call 13; ((with_reducible refine (c1 _ (ri_one HR.out (by assumption))).mono ?_); rintro e w3 ⟨rfl, hb⟩))
      | (go_at_call 13; ((with_reducible refine (c3 _ (ri_one HR.out (by assumption))).mono ?_); rintro e w3 ⟨rfl, hb⟩))
      | (go_at_call 13; ((with_reducible refine (c2 _ _ _ _ rfl (ri_one HD.out (by assumption))).mono ?_); rintro e w3 ⟨rfl, hb⟩))
      | (go_at_call 8; ((with_reducible refine (awake_any _).mono ?_); rintro e w3 ⟨rfl, hb⟩)))
  all_goals
    have h9 := one_below (by assumption)
    go_wp2_with (fail)
    go_ret
    exact ⟨rfl, h9⟩

set_option maxRecDepth 100000 in
theorem lifted (os : Os) (started : os.Started) (H : Type) (enc : TypeId × Value → H) :
    ReturnsInHanded {} Try.checked os 7 .any (Rows.statPartsSpec.pre6 enc Try.prog Try.f7 Rows.statPartsRow.domain false) (Rows.statPartsSpec.post enc Try.prog Try.f7 false true false false) := by
  refine returnsInHanded_of_change (C := Try.checked) own started (by kernel_rfl) Try.func7
    (ChangeSpec.witness6 (enc := enc) (C := Try.checked) false ⟨#[], #[.agg #[.int .i64 0, .int .i64 0, .int .i64 0, .int .i64 0, .int .i64 0], .int .i64 0, .slice none 0 0, .int .i64 0], []⟩ 8 (by kernel_rfl) (by kernel_rfl) (by kernel_rfl) (by kernel_rfl)) ?_
  intro W base args ds gs before hval0 hW hcnd _
  have hval : ∀ (j : Nat) t v, Try.f7.params[j]? = some t → args[j]? = some v → Value.okWide Try.prog W .any base t v := hval0
  have hW' := hW
  obtain ⟨p, q, hA0, hV, rfl, hfz, hnd⟩ := hW
  have hA : DataW.TrodAll enc Try.prog W 0 (fun _ => true) true Try.f7.params.toList args.toList ds p := hA0
  rw [Try.params7] at hA hval
  obtain ⟨v0, vs0, d0, ds0, p0, q0, hargs, rfl, rfl, h0, r0⟩ := trodAll_cons hA
  obtain ⟨v1, vs1, d1, ds1, p1, q1, rfl, rfl, rfl, h1, r1⟩ := trodAll_cons r0
  obtain ⟨v2, vs2, d2, ds2, p2, q2, rfl, rfl, rfl, h2, r2⟩ := trodAll_cons r1
  obtain ⟨v3, vs3, d3, ds3, p3, q3, rfl, rfl, rfl, h3, r3⟩ := trodAll_cons r2
  obtain ⟨rfl, rfl, rfl⟩ := trodAll_nil r3
  obtain rfl : args = #[v0, v1, v2, v3] := by cases args; simp_all
  obtain ⟨rfl, rfl⟩ := trodVars_none hV
  have k0 := h0
  have lt0 : ∀ x ∈ p0, x.block < W.heap.size := by obtain ⟨m, hm⟩ := k0; exact DataW.trod_lt m _ _ _ hm
  obtain ⟨u0, rfl, _⟩ := okWide_struct Try.underlying23 (hval 0 23 v0 rfl rfl)
  obtain ⟨h0_, l0_, c0_, u0_, m0_, e0⟩ := fields_pol (enc := enc) (w := W) (cs := u0.toList) (fuel := h0.choose) (by simpa [Value.cells] using h0.choose_spec)
  obtain rfl : u0 = #[.int .i64 h0_, .int .i64 l0_, .int .i64 c0_, .int .i64 u0_, .int .i64 m0_] := by cases u0; simp_all
  have k1 := h1
  have lt1 : ∀ x ∈ p1, x.block < W.heap.size := by obtain ⟨m, hm⟩ := k1; exact DataW.trod_lt m _ _ _ hm
  obtain ⟨a1, rfl, rfl, rfl, w1⟩ := open_int Try.underlying3 (hval 1 3 v1 rfl rfl) h1
  have k2 := h2
  have lt2 : ∀ x ∈ p2, x.block < W.heap.size := by obtain ⟨m, hm⟩ := k2; exact DataW.trod_lt m _ _ _ hm
  obtain ⟨b2, l2, c2, rfl⟩ := okWide_slice Try.underlying24 (hval 2 24 v2 rfl rfl)
  obtain ⟨a2, cap2, z2, e2, w2⟩ := open_ri (enc := enc) (w := W) (v := .slice b2 l2 c2) (fuel := h2.choose) (by simpa [Value.cells] using h2.choose_spec)
  rw [e2] at hval k2 h2 hW' hval0 hA0
  have k3 := h3
  have lt3 : ∀ x ∈ p3, x.block < W.heap.size := by obtain ⟨m, hm⟩ := k3; exact DataW.trod_lt m _ _ _ hm
  obtain ⟨a3, rfl, rfl, rfl, w3⟩ := open_int Try.underlying3 (hval 3 3 v3 rfl rfl) h3
  clear hA0 hval0
  rw [e2]; refine (walk h0_ l0_ c0_ u0_ m0_ a1 a2 cap2 z2 a3 W w1 w2 w3).mono fun e W' ⟨he, bel⟩ => ?_
  subst he
  exact ⟨_, rfl, _, _, _, [], _, [], hW', trodAll_mk1 (shut_bool Try.underlying4 _), (trodAll_cons_mk (Below.trod laidOut (by kernel_rfl) (of_decide_eq_true (by kernel_rfl)) k0 bel lt0) (trodAll_cons_mk (Below.trod laidOut (by kernel_rfl) (of_decide_eq_true (by kernel_rfl)) k1 bel lt1) (trodAll_cons_mk (Below.trod laidOut (by kernel_rfl) (of_decide_eq_true (by kernel_rfl)) k2 bel lt2) (trodAll_cons_mk (Below.trod laidOut (by kernel_rfl) (of_decide_eq_true (by kernel_rfl)) k3 bel lt3) trodAll_mk0)))), rfl, bel.frame _, fun h => by cases h⟩

theorem over : Rows.statPartsRow.holds Try.pinned (OpenSpec.ofChange Rows.statPartsSpec) :=
  OpenClaim.holds_of_wide 7 Try.f7 rfl rfl rfl rfl rfl rfl rfl ⟨rfl, rfl, rfl, rfl, rfl⟩ rfl rfl rfl rfl rfl (by kernel_rfl) Try.func7 (by kernel_rfl)
    (of_decide_eq_true (by kernel_rfl)) (by unfold Func.isWrapper; first | (rw [if_pos (by decide +kernel)]; kernel_rfl) | (rw [if_neg (by decide +kernel)]; exact ⟨rfl, rfl⟩))
    (fun os started H enc _ => lifted os started H enc)

theorem statPartsHolds : Rows.StatPartsSaid := over
#print axioms statPartsHolds
end Go.Proofs.Ytppahbgoecldmaa.statParts
