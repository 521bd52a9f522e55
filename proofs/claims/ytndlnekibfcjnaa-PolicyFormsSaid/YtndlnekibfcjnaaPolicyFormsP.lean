/- PolicyForms (P11.1): for any policy: Clamp answers what the document's own clamp answers, May says yes just if that leaves the policy as it is, Off and Eager are the document's; the policy reads as it did. No condition. -/
import Derived.Test.YtndlnekibfcjnaaRows
import Derived.Test.YtndlnekibfcjnaaPoN
import Derived.LoopTactic
import Derived.WalkKit
import Derived.ProofKit
import Derived.OpenShut
import Derived.ChangeOld
import Derived.Below
namespace Go.Proofs.Ytndlnekibfcjnaa.policyForms
open Go.ChangeShapes Go.WideShapes Go.ChangeAt Go.RowKit
set_option linter.all false

theorem own : ownKnob Try.prog.godebug = none := by kernel_rfl
theorem laidOut : laidOutB Try.prog = true := by kernel_rfl



set_option maxRecDepth 100000 in
set_option maxHeartbeats 12800000 in
theorem walk (h0 l0 c0 u0 m0 : Int) (w : World)  :
    Calls Try.prog 3 #[.agg #[.int .i64 h0, .int .i64 l0, .int .i64 c0, .int .i64 u0, .int .i64 m0]] w fun e w' => e = .returned (.bool true) ∧ Below w.heap.size w w' := by
  by_cases e0 : wi 1 h0 100000 = h0
  · by_cases e1 : wi (-100000) l0 0 = l0
    · by_cases e2 : wi (-100000) c0 100000 = c0
      · by_cases e3 : wi (-100000) u0 100000 = u0
        · by_cases e4 : wi (-100000) m0 100000 = m0
          · have HC := Lib.hid (show Cl h0 l0 c0 u0 m0 h0 l0 c0 u0 m0 from ⟨e0, e1, e2, e3, e4⟩)
            clear e0 e1 e2 e3 e4
            go_enter Try.func3, Try.ntmps3
            go_wp2_with (fail)
            go_region_held3 (fun W => W.cell? ⟨w.heap.size, 0, none⟩ = some (.int .i64 h0) ∧ W.cell? ⟨w.heap.size, 1, none⟩ = some (.int .i64 l0) ∧ W.cell? ⟨w.heap.size, 2, none⟩ = some (.int .i64 c0) ∧ W.cell? ⟨w.heap.size, 3, none⟩ = some (.int .i64 u0) ∧ W.cell? ⟨w.heap.size, 4, none⟩ = some (.int .i64 m0) ∧ Below w.heap.size w W)
              (first | exact one_new _ _ _ _ _ _ _ _ rfl | exact one_keep (by assumption) hb | go_keep)
              (first
                | (go_at_call 7; ((with_reducible refine (clamp_to _ _ _ _ _ h0 l0 c0 u0 m0 HC.out _).mono ?_); rintro e w3 ⟨rfl, hb⟩))
                | (go_at_call 8; ((with_reducible refine (rclamp_to _ _ _ _ _ h0 l0 c0 u0 m0 HC.out _).mono ?_); rintro e w3 ⟨rfl, hb⟩))
                | (go_at_call 9; ((with_reducible refine (may_yes _ _ _ _ _ HC.out _).mono ?_); rintro e w3 ⟨rfl, hb⟩))
                | (go_at_call 10; ((with_reducible refine (off_any _).mono ?_); rintro e w3 ⟨rfl, hb⟩))
                | (go_at_call 11; ((with_reducible refine (eager_any _).mono ?_); rintro e w3 ⟨rfl, hb⟩))
                | (go_at_call 12; ((with_reducible refine (awake_any _).mono ?_); rintro e w3 ⟨rfl, hb⟩)))
            all_goals
              have h9 := one_below (by assumption)
              go_wp2_with (fail)
              go_ret
              exact ⟨rfl, h9⟩
          · have HC := Lib.hid (show ¬ Cl h0 l0 c0 u0 m0 h0 l0 c0 u0 m0 from fun x => e4 x.2.2.2.2)
            go_enter Try.func3, Try.ntmps3
            go_wp2_with (fail)
            go_region_held3 (fun W => W.cell? ⟨w.heap.size, 0, none⟩ = some (.int .i64 h0) ∧ W.cell? ⟨w.heap.size, 1, none⟩ = some (.int .i64 l0) ∧ W.cell? ⟨w.heap.size, 2, none⟩ = some (.int .i64 c0) ∧ W.cell? ⟨w.heap.size, 3, none⟩ = some (.int .i64 u0) ∧ W.cell? ⟨w.heap.size, 4, none⟩ = some (.int .i64 m0) ∧ Below w.heap.size w W)
              (first | exact one_new _ _ _ _ _ _ _ _ rfl | exact one_keep (by assumption) hb | go_keep)
              (first
                | (go_at_call 7; ((with_reducible refine (clamp_any _ _ _ _ _ _).mono ?_); rintro e w3 ⟨rfl, hb⟩))
                | (go_at_call 8; ((with_reducible refine (rclamp_any _ _ _ _ _ _).mono ?_); rintro e w3 ⟨rfl, hb⟩))
                | (go_at_call 9; ((with_reducible refine (may_not _ _ _ _ _ HC.out _).mono ?_); rintro e w3 ⟨rfl, hb⟩))
                | (go_at_call 10; ((with_reducible refine (off_any _).mono ?_); rintro e w3 ⟨rfl, hb⟩))
                | (go_at_call 11; ((with_reducible refine (eager_any _).mono ?_); rintro e w3 ⟨rfl, hb⟩))
                | (go_at_call 12; ((with_reducible refine (awake_any _).mono ?_); rintro e w3 ⟨rfl, hb⟩)))
            all_goals
              have h9 := one_below (by assumption)
              go_wp2_with (fail)
              go_ret
              exact ⟨rfl, h9⟩
        · have HC := Lib.hid (show ¬ Cl h0 l0 c0 u0 m0 h0 l0 c0 u0 m0 from fun x => e3 x.2.2.2.1)
          go_enter Try.func3, Try.ntmps3
          go_wp2_with (fail)
          go_region_held3 (fun W => W.cell? ⟨w.heap.size, 0, none⟩ = some (.int .i64 h0) ∧ W.cell? ⟨w.heap.size, 1, none⟩ = some (.int .i64 l0) ∧ W.cell? ⟨w.heap.size, 2, none⟩ = some (.int .i64 c0) ∧ W.cell? ⟨w.heap.size, 3, none⟩ = some (.int .i64 u0) ∧ W.cell? ⟨w.heap.size, 4, none⟩ = some (.int .i64 m0) ∧ Below w.heap.size w W)
            (first | exact one_new _ _ _ _ _ _ _ _ rfl | exact one_keep (by assumption) hb | go_keep)
            (first
              | (go_at_call 7; ((with_reducible refine (clamp_any _ _ _ _ _ _).mono ?_); rintro e w3 ⟨rfl, hb⟩))
              | (go_at_call 8; ((with_reducible refine (rclamp_any _ _ _ _ _ _).mono ?_); rintro e w3 ⟨rfl, hb⟩))
              | (go_at_call 9; ((with_reducible refine (may_not _ _ _ _ _ HC.out _).mono ?_); rintro e w3 ⟨rfl, hb⟩))
              | (go_at_call 10; ((with_reducible refine (off_any _).mono ?_); rintro e w3 ⟨rfl, hb⟩))
              | (go_at_call 11; ((with_reducible refine (eager_any _).mono ?_); rintro e w3 ⟨rfl, hb⟩))
              | (go_at_call 12; ((with_reducible refine (awake_any _).mono ?_); rintro e w3 ⟨rfl, hb⟩)))
          all_goals
            have h9 := one_below (by assumption)
            go_wp2_with (fail)
            go_ret
            exact ⟨rfl, h9⟩
      · have HC := Lib.hid (show ¬ Cl h0 l0 c0 u0 m0 h0 l0 c0 u0 m0 from fun x => e2 x.2.2.1)
        go_enter Try.func3, Try.ntmps3
        go_wp2_with (fail)
        go_region_held3 (fun W => W.cell? ⟨w.heap.size, 0, none⟩ = some (.int .i64 h0) ∧ W.cell? ⟨w.heap.size, 1, none⟩ = some (.int .i64 l0) ∧ W.cell? ⟨w.heap.size, 2, none⟩ = some (.int .i64 c0) ∧ W.cell? ⟨w.heap.size, 3, none⟩ = some (.int .i64 u0) ∧ W.cell? ⟨w.heap.size, 4, none⟩ = some (.int .i64 m0) ∧ Below w.heap.size w W)
          (first | exact one_new _ _ _ _ _ _ _ _ rfl | exact one_keep (by assumption) hb | go_keep)
          (first
            | (go_at_call 7; ((with_reducible refine (clamp_any _ _ _ _ _ _).mono ?_); rintro e w3 ⟨rfl, hb⟩))
            | (go_at_call 8; ((with_reducible refine (rclamp_any _ _ _ _ _ _).mono ?_); rintro e w3 ⟨rfl, hb⟩))
            | (go_at_call 9; ((with_reducible refine (may_not _ _ _ _ _ HC.out _).mono ?_); rintro e w3 ⟨rfl, hb⟩))
            | (go_at_call 10; ((with_reducible refine (off_any _).mono ?_); rintro e w3 ⟨rfl, hb⟩))
            | (go_at_call 11; ((with_reducible refine (eager_any _).mono ?_); rintro e w3 ⟨rfl, hb⟩))
            | (go_at_call 12; ((with_reducible refine (awake_any _).mono ?_); rintro e w3 ⟨rfl, hb⟩)))
        all_goals
          have h9 := one_below (by assumption)
          go_wp2_with (fail)
          go_ret
          exact ⟨rfl, h9⟩
    · have HC := Lib.hid (show ¬ Cl h0 l0 c0 u0 m0 h0 l0 c0 u0 m0 from fun x => e1 x.2.1)
      go_enter Try.func3, Try.ntmps3
      go_wp2_with (fail)
      go_region_held3 (fun W => W.cell? ⟨w.heap.size, 0, none⟩ = some (.int .i64 h0) ∧ W.cell? ⟨w.heap.size, 1, none⟩ = some (.int .i64 l0) ∧ W.cell? ⟨w.heap.size, 2, none⟩ = some (.int .i64 c0) ∧ W.cell? ⟨w.heap.size, 3, none⟩ = some (.int .i64 u0) ∧ W.cell? ⟨w.heap.size, 4, none⟩ = some (.int .i64 m0) ∧ Below w.heap.size w W)
        (first | exact one_new _ _ _ _ _ _ _ _ rfl | exact one_keep (by assumption) hb | go_keep)
        (first
          | (go_at_call 7; ((with_reducible refine (clamp_any _ _ _ _ _ _).mono ?_); rintro e w3 ⟨rfl, hb⟩))
          | (go_at_call 8; ((with_reducible refine (rclamp_any _ _ _ _ _ _).mono ?_); rintro e w3 ⟨rfl, hb⟩))
          | (go_at_call 9; ((with_reducible refine (may_not _ _ _ _ _ HC.out _).mono ?_); rintro e w3 ⟨rfl, hb⟩))
          | (go_at_call 10; ((with_reducible refine (off_any _).mono ?_); rintro e w3 ⟨rfl, hb⟩))
          | (go_at_call 11; ((with_reducible refine (eager_any _).mono ?_); rintro e w3 ⟨rfl, hb⟩))
          | (go_at_call 12; ((with_reducible refine (awake_any _).mono ?_); rintro e w3 ⟨rfl, hb⟩)))
      all_goals
        have h9 := one_below (by assumption)
        go_wp2_with (fail)
        go_ret
        exact ⟨rfl, h9⟩
  · have HC := Lib.hid (show ¬ Cl h0 l0 c0 u0 m0 h0 l0 c0 u0 m0 from fun x => e0 x.1)
    go_enter Try.func3, Try.ntmps3
    go_wp2_with (fail)
    go_region_held3 (fun W => W.cell? ⟨w.heap.size, 0, none⟩ = some (.int .i64 h0) ∧ W.cell? ⟨w.heap.size, 1, none⟩ = some (.int .i64 l0) ∧ W.cell? ⟨w.heap.size, 2, none⟩ = some (.int .i64 c0) ∧ W.cell? ⟨w.heap.size, 3, none⟩ = some (.int .i64 u0) ∧ W.cell? ⟨w.heap.size, 4, none⟩ = some (.int .i64 m0) ∧ Below w.heap.size w W)
      (first | exact one_new _ _ _ _ _ _ _ _ rfl | exact one_keep (by assumption) hb | go_keep)
      (first
        | (go_at_call 7; ((with_reducible refine (clamp_any _ _ _ _ _ _).mono ?_); rintro e w3 ⟨rfl, hb⟩))
        | (go_at_call 8; ((with_reducible refine (rclamp_any _ _ _ _ _ _).mono ?_); rintro e w3 ⟨rfl, hb⟩))
        | (go_at_call 9; ((with_reducible refine (may_not _ _ _ _ _ HC.out _).mono ?_); rintro e w3 ⟨rfl, hb⟩))
        | (go_at_call 10; ((with_reducible refine (off_any _).mono ?_); rintro e w3 ⟨rfl, hb⟩))
        | (go_at_call 11; ((with_reducible refine (eager_any _).mono ?_); rintro e w3 ⟨rfl, hb⟩))
        | (go_at_call 12; ((with_reducible refine (awake_any _).mono ?_); rintro e w3 ⟨rfl, hb⟩)))
    all_goals
      have h9 := one_below (by assumption)
      go_wp2_with (fail)
      go_ret
      exact ⟨rfl, h9⟩

set_option maxRecDepth 100000 in
theorem lifted (os : Os) (started : os.Started) (H : Type) (enc : TypeId × Value → H) :
    ReturnsInHanded {} Try.checked os 3 .any (Rows.policyFormsSpec.pre6 enc Try.prog Try.f3 Rows.policyFormsRow.domain false) (Rows.policyFormsSpec.post enc Try.prog Try.f3 false true false false) := by
  refine returnsInHanded_of_change (C := Try.checked) own started (by kernel_rfl) Try.func3
    (ChangeSpec.witness6 (enc := enc) (C := Try.checked) false ⟨#[], #[.agg #[.int .i64 0, .int .i64 0, .int .i64 0, .int .i64 0, .int .i64 0]], []⟩ 8 (by kernel_rfl) (by kernel_rfl) (by kernel_rfl) (by kernel_rfl)) ?_
  intro W base args ds gs before hval0 hW hcnd _
  have hval : ∀ (j : Nat) t v, Try.f3.params[j]? = some t → args[j]? = some v → Value.okWide Try.prog W .any base t v := hval0
  have hW' := hW
  obtain ⟨p, q, hA0, hV, rfl, hfz, hnd⟩ := hW
  have hA : DataW.TrodAll enc Try.prog W 0 (fun _ => true) true Try.f3.params.toList args.toList ds p := hA0
  rw [Try.params3] at hA hval
  obtain ⟨v0, vs0, d0, ds0, p0, q0, hargs, rfl, rfl, h0, r0⟩ := trodAll_cons hA
  obtain ⟨rfl, rfl, rfl⟩ := trodAll_nil r0
  obtain rfl : args = #[v0] := by cases args; simp_all
  obtain ⟨rfl, rfl⟩ := trodVars_none hV
  have k0 := h0
  have lt0 : ∀ x ∈ p0, x.block < W.heap.size := by obtain ⟨m, hm⟩ := k0; exact DataW.trod_lt m _ _ _ hm
  obtain ⟨u0, rfl, _⟩ := okWide_struct Try.underlying23 (hval 0 23 v0 rfl rfl)
  obtain ⟨h0_, l0_, c0_, u0_, m0_, e0⟩ := fields_pol (enc := enc) (w := W) (cs := u0.toList) (fuel := h0.choose) (by simpa [Value.cells] using h0.choose_spec)
  obtain rfl : u0 = #[.int .i64 h0_, .int .i64 l0_, .int .i64 c0_, .int .i64 u0_, .int .i64 m0_] := by cases u0; simp_all
  clear hA0 hval0
  refine (walk h0_ l0_ c0_ u0_ m0_ W ).mono fun e W' ⟨he, bel⟩ => ?_
  subst he
  exact ⟨_, rfl, _, _, _, [], _, [], hW', trodAll_mk1 (shut_bool Try.underlying4 _), (trodAll_cons_mk (Below.trod laidOut (by kernel_rfl) (of_decide_eq_true (by kernel_rfl)) k0 bel lt0) trodAll_mk0), rfl, bel.frame _, fun h => by cases h⟩

theorem over : Rows.policyFormsRow.holds Try.pinned (OpenSpec.ofChange Rows.policyFormsSpec) :=
  OpenClaim.holds_of_wide 3 Try.f3 rfl rfl rfl rfl rfl rfl rfl ⟨rfl, rfl, rfl, rfl, rfl⟩ rfl rfl rfl rfl rfl (by kernel_rfl) Try.func3 (by kernel_rfl)
    (of_decide_eq_true (by kernel_rfl)) (by unfold Func.isWrapper; first | (rw [if_pos (by decide +kernel)]; kernel_rfl) | (rw [if_neg (by decide +kernel)]; exact ⟨rfl, rfl⟩))
    (fun os started H enc _ => lifted os started H enc)

theorem policyFormsHolds : Rows.PolicyFormsSaid := over
#print axioms policyFormsHolds
end Go.Proofs.Ytndlnekibfcjnaa.policyForms
