/- StatRises (P12.1): under any policy, of any two stats the greater one is no less after whatever befalls both, is to be split if the other one is, and is to be joined only if the other one is. No condition. -/
import Derived.Test.YtppahbgoecldmaaRows
import Derived.Test.YtppahbgoecldmaaStW
import Derived.LoopTactic
import Derived.WalkKit
import Derived.ProofKit
import Derived.OpenShut
import Derived.ChangeOld
import Derived.Below
namespace Go.Proofs.Ytppahbgoecldmaa.statRises
open Go.ChangeShapes Go.WideShapes Go.ChangeAt Go.RowKit
set_option linter.all false

theorem own : ownKnob Try.prog.godebug = none := by kernel_rfl
theorem laidOut : laidOutB Try.prog = true := by kernel_rfl

theorem hm_mono {a b : Int} (h : a ≤ b) : hm a ≤ hm b := by unfold hm; omega
theorem nx_mono (c u m a b w : Int) (h : a ≤ b) : nx c u m a w ≤ nx c u m b w := by
  unfold nx
  have := hm_mono h
  exact hm_mono (by omega)
theorem dc_mono {c u m : Int} (h l a b : Int) (B : Bd h l c u m) (hab : a ≤ b) : (dc h l a = 0 ∧ dc h l b = 0) ∨ (dc h l a = 0 ∧ dc h l b = 1) ∨ (dc h l a = 1 ∧ dc h l b = 1) ∨ (dc h l a = 2 ∧ dc h l b = 0) ∨ (dc h l a = 2 ∧ dc h l b = 1) ∨ (dc h l a = 2 ∧ dc h l b = 2) := by
  have := hm_mono hab
  have := B.h0
  have := B.l1
  unfold dc
  split <;> split <;> (try split) <;> (try split) <;> omega
section
variable {w W : World} {b : Nat} {h l c u m : Int}
theorem one_drew (H : W.cell? ⟨b, 0, none⟩ = some (.int .i64 h) ∧ W.cell? ⟨b, 1, none⟩ = some (.int .i64 l) ∧ W.cell? ⟨b, 2, none⟩ = some (.int .i64 c) ∧ W.cell? ⟨b, 3, none⟩ = some (.int .i64 u) ∧ W.cell? ⟨b, 4, none⟩ = some (.int .i64 m) ∧ Below w.heap.size w W) : W.drew.cell? ⟨b, 0, none⟩ = some (.int .i64 h) ∧ W.drew.cell? ⟨b, 1, none⟩ = some (.int .i64 l) ∧ W.drew.cell? ⟨b, 2, none⟩ = some (.int .i64 c) ∧ W.drew.cell? ⟨b, 3, none⟩ = some (.int .i64 u) ∧ W.drew.cell? ⟨b, 4, none⟩ = some (.int .i64 m) ∧ Below w.heap.size w W.drew := one_keep H (Below.refl _ _).drew
theorem one_all (H : W.cell? ⟨b, 0, none⟩ = some (.int .i64 h) ∧ W.cell? ⟨b, 1, none⟩ = some (.int .i64 l) ∧ W.cell? ⟨b, 2, none⟩ = some (.int .i64 c) ∧ W.cell? ⟨b, 3, none⟩ = some (.int .i64 u) ∧ W.cell? ⟨b, 4, none⟩ = some (.int .i64 m) ∧ Below w.heap.size w W) : Hid (W.cell? ⟨b, 0, none⟩ = some (.int .i64 h) ∧ W.cell? ⟨b, 1, none⟩ = some (.int .i64 l) ∧ W.cell? ⟨b, 2, none⟩ = some (.int .i64 c) ∧ W.cell? ⟨b, 3, none⟩ = some (.int .i64 u) ∧ W.cell? ⟨b, 4, none⟩ = some (.int .i64 m) ∧ Below w.heap.size w W) := Lib.hid H
end

set_option maxRecDepth 100000 in
set_option maxHeartbeats 12800000 in
theorem walk (h0 l0 c0 u0 m0 : Int) (a1 : Int) (a2 : Int) (a3 : Int) (w : World) (w1 : (Lit.int .i64 a1).wf = true) (w2 : (Lit.int .i64 a2).wf = true) (w3 : (Lit.int .i64 a3).wf = true) :
    Calls Try.prog 5 #[.agg #[.int .i64 h0, .int .i64 l0, .int .i64 c0, .int .i64 u0, .int .i64 m0], .int .i64 a1, .int .i64 a2, .int .i64 a3] w fun e w' => e = .returned (.bool true) ∧ Below w.heap.size w w' := by
  obtain ⟨x0, x1, x2, x3, x4, HC⟩ : ∃ x0 x1 x2 x3 x4, Hid (Cl h0 l0 c0 u0 m0 x0 x1 x2 x3 x4) := ⟨_, _, _, _, _, Lib.hid ⟨rfl, rfl, rfl, rfl, rfl⟩⟩
  clear w1 w2 w3
  by_cases hab : a2 < a1
  · have hle : a2 ≤ a1 := by omega
    have hn := nx_mono x2 x3 x4 a2 a1 a3 hle
    have hd := dc_mono x0 x1 a2 a1 HC.out.bd hle
    have n1 := fun w => next_to h0 l0 c0 u0 m0 x0 x1 x2 x3 x4 a2 a3 HC.out w
    have n2 := fun w => next_to h0 l0 c0 u0 m0 x0 x1 x2 x3 x4 a1 a3 HC.out w
    have d1 := fun w => decide_to h0 l0 c0 u0 m0 x0 x1 x2 x3 x4 a2 HC.out w
    have d2 := fun w => decide_to h0 l0 c0 u0 m0 x0 x1 x2 x3 x4 a1 HC.out w
    generalize nx x2 x3 x4 a2 a3 = p at hn n1
    generalize nx x2 x3 x4 a1 a3 = q at hn n2
    generalize dc x0 x1 a2 = d at hd d1
    generalize dc x0 x1 a1 = e at hd d2
    have hn2 : ¬ q < p := by omega
    have hn3 : decide (q < p) = false := decide_eq_false hn2
    have HD := Lib.hid hd
    clear hd hn hle
    go_enter Try.func5, Try.ntmps5
    go_wp2_with (fail)
    go_region_held3 (fun W => W.cell? ⟨w.heap.size, 0, none⟩ = some (.int .i64 h0) ∧ W.cell? ⟨w.heap.size, 1, none⟩ = some (.int .i64 l0) ∧ W.cell? ⟨w.heap.size, 2, none⟩ = some (.int .i64 c0) ∧ W.cell? ⟨w.heap.size, 3, none⟩ = some (.int .i64 u0) ∧ W.cell? ⟨w.heap.size, 4, none⟩ = some (.int .i64 m0) ∧ Below w.heap.size w W)
      (first | exact one_new _ _ _ _ _ _ _ _ rfl | exact one_keep (by assumption) hb | exact one_drew (by assumption) | go_keep)
      (first
        | (go_at_call 10; ((with_reducible refine (n1 _).mono ?_); rintro e w3 ⟨rfl, hb⟩))
        | (go_at_call 10; ((with_reducible refine (n2 _).mono ?_); rintro e w3 ⟨rfl, hb⟩)))
    all_goals
      have h9 := one_all (by assumption)
      clear n1 n2
      go_wp2_with (fail)
      go_region_held3 (fun W => W.cell? ⟨w.heap.size, 0, none⟩ = some (.int .i64 h0) ∧ W.cell? ⟨w.heap.size, 1, none⟩ = some (.int .i64 l0) ∧ W.cell? ⟨w.heap.size, 2, none⟩ = some (.int .i64 c0) ∧ W.cell? ⟨w.heap.size, 3, none⟩ = some (.int .i64 u0) ∧ W.cell? ⟨w.heap.size, 4, none⟩ = some (.int .i64 m0) ∧ Below w.heap.size w W)
        (first | exact one_new _ _ _ _ _ _ _ _ rfl | exact one_keep (by assumption) hb | exact one_drew (by assumption) | go_keep)
        (first
          | (go_at_call 11; ((with_reducible refine (d1 _).mono ?_); rintro e w3 ⟨rfl, hb⟩))
          | (go_at_call 11; ((with_reducible refine (d2 _).mono ?_); rintro e w3 ⟨rfl, hb⟩)))
      all_goals
        have h8 := one_below (by assumption)
        have H8 := Lib.hid h8
        clear d1 d2 h8
        rcases HD.out with ⟨rfl, rfl⟩ | ⟨rfl, rfl⟩ | ⟨rfl, rfl⟩ | ⟨rfl, rfl⟩ | ⟨rfl, rfl⟩ | ⟨rfl, rfl⟩
        all_goals
          clear HD
          go_wp2_with (first
            | (go_at_call 8; ((with_reducible refine (awake_any _).mono ?_); rintro e W7 ⟨rfl, h7⟩)))
          go_ret
          exact ⟨rfl, bst H8.out h7⟩
  · have hle : a1 ≤ a2 := by omega
    have hn := nx_mono x2 x3 x4 a1 a2 a3 hle
    have hd := dc_mono x0 x1 a1 a2 HC.out.bd hle
    have n1 := fun w => next_to h0 l0 c0 u0 m0 x0 x1 x2 x3 x4 a1 a3 HC.out w
    have n2 := fun w => next_to h0 l0 c0 u0 m0 x0 x1 x2 x3 x4 a2 a3 HC.out w
    have d1 := fun w => decide_to h0 l0 c0 u0 m0 x0 x1 x2 x3 x4 a1 HC.out w
    have d2 := fun w => decide_to h0 l0 c0 u0 m0 x0 x1 x2 x3 x4 a2 HC.out w
    generalize nx x2 x3 x4 a1 a3 = p at hn n1
    generalize nx x2 x3 x4 a2 a3 = q at hn n2
    generalize dc x0 x1 a1 = d at hd d1
    generalize dc x0 x1 a2 = e at hd d2
    have hn2 : ¬ q < p := by omega
    have hn3 : decide (q < p) = false := decide_eq_false hn2
    have HD := Lib.hid hd
    clear hd hn hle
    go_enter Try.func5, Try.ntmps5
    go_wp2_with (fail)
    go_region_held3 (fun W => W.cell? ⟨w.heap.size, 0, none⟩ = some (.int .i64 h0) ∧ W.cell? ⟨w.heap.size, 1, none⟩ = some (.int .i64 l0) ∧ W.cell? ⟨w.heap.size, 2, none⟩ = some (.int .i64 c0) ∧ W.cell? ⟨w.heap.size, 3, none⟩ = some (.int .i64 u0) ∧ W.cell? ⟨w.heap.size, 4, none⟩ = some (.int .i64 m0) ∧ Below w.heap.size w W)
      (first | exact one_new _ _ _ _ _ _ _ _ rfl | exact one_keep (by assumption) hb | exact one_drew (by assumption) | go_keep)
      (first
        | (go_at_call 10; ((with_reducible refine (n1 _).mono ?_); rintro e w3 ⟨rfl, hb⟩))
        | (go_at_call 10; ((with_reducible refine (n2 _).mono ?_); rintro e w3 ⟨rfl, hb⟩)))
    all_goals
      have h9 := one_all (by assumption)
      clear n1 n2
      go_wp2_with (fail)
      go_region_held3 (fun W => W.cell? ⟨w.heap.size, 0, none⟩ = some (.int .i64 h0) ∧ W.cell? ⟨w.heap.size, 1, none⟩ = some (.int .i64 l0) ∧ W.cell? ⟨w.heap.size, 2, none⟩ = some (.int .i64 c0) ∧ W.cell? ⟨w.heap.size, 3, none⟩ = some (.int .i64 u0) ∧ W.cell? ⟨w.heap.size, 4, none⟩ = some (.int .i64 m0) ∧ Below w.heap.size w W)
        (first | exact one_new _ _ _ _ _ _ _ _ rfl | exact one_keep (by assumption) hb | exact one_drew (by assumption) | go_keep)
        (first
          | (go_at_call 11; ((with_reducible refine (d1 _).mono ?_); rintro e w3 ⟨rfl, hb⟩))
          | (go_at_call 11; ((with_reducible refine (d2 _).mono ?_); rintro e w3 ⟨rfl, hb⟩)))
      all_goals
        have h8 := one_below (by assumption)
        have H8 := Lib.hid h8
        clear d1 d2 h8
        rcases HD.out with ⟨rfl, rfl⟩ | ⟨rfl, rfl⟩ | ⟨rfl, rfl⟩ | ⟨rfl, rfl⟩ | ⟨rfl, rfl⟩ | ⟨rfl, rfl⟩
        all_goals
          clear HD
          go_wp2_with (first
            | (go_at_call 8; ((with_reducible refine (awake_any _).mono ?_); rintro e W7 ⟨rfl, h7⟩)))
          go_ret
          exact ⟨rfl, bst H8.out h7⟩

set_option maxRecDepth 100000 in
theorem lifted (os : Os) (started : os.Started) (H : Type) (enc : TypeId × Value → H) :
    ReturnsInHanded {} Try.checked os 5 .any (Rows.statRisesSpec.pre6 enc Try.prog Try.f5 Rows.statRisesRow.domain false) (Rows.statRisesSpec.post enc Try.prog Try.f5 false true false false) := by
  refine returnsInHanded_of_change (C := Try.checked) own started (by kernel_rfl) Try.func5
    (ChangeSpec.witness6 (enc := enc) (C := Try.checked) false ⟨#[], #[.agg #[.int .i64 0, .int .i64 0, .int .i64 0, .int .i64 0, .int .i64 0], .int .i64 0, .int .i64 0, .int .i64 0], []⟩ 8 (by kernel_rfl) (by kernel_rfl) (by kernel_rfl) (by kernel_rfl)) ?_
  intro W base args ds gs before hval0 hW hcnd _
  have hval : ∀ (j : Nat) t v, Try.f5.params[j]? = some t → args[j]? = some v → Value.okWide Try.prog W .any base t v := hval0
  have hW' := hW
  obtain ⟨p, q, hA0, hV, rfl, hfz, hnd⟩ := hW
  have hA : DataW.TrodAll enc Try.prog W 0 (fun _ => true) true Try.f5.params.toList args.toList ds p := hA0
  rw [Try.params5] at hA hval
  obtain ⟨v0, vs0, d0, ds0, p0, q0, hargs, rfl, rfl, h0, r0⟩ := trodAll_cons hA
  obtain ⟨v1, vs1, d1, ds1, p1, q1, rfl, rfl, rfl, h1, r1⟩ := trodAll_cons r0
  obtain ⟨v2, vs2, d2, ds2, p2, q2, rfl, rfl, rfl, h2, r2⟩ := trodAll_cons r1
  obtain ⟨v3, vs3, d3, ds3, p3, q3, rfl, rfl, rfl, h3, r3⟩ := trodAll_cons r2
  obtain ⟨rfl, rfl, rfl⟩ := trodAll_nil r3
  obtain rfl : args = #[v0, v1, v2, v3] := by cases args; simp_all
  obtain ⟨rfl, rfl⟩ := trodVars_none hV
  have k0 := h0
  have lt0 : ∀ x ∈ p0, x.block < W.heap.size := by obtain ⟨m, hm⟩ := k0; exact DataW.trod_lt m _ _ _ hm
  obtain ⟨u0, rfl, _⟩ := okWide_struct Try.underlying23 (hval 0 23 v0 rfl rfl)
  obtain ⟨h0_, l0_, c0_, u0_, m0_, e0⟩ := fields_pol (enc := enc) (w := W) (cs := u0.toList) (fuel := h0.choose) (by simpa [Value.cells] using h0.choose_spec)
  obtain rfl : u0 = #[.int .i64 h0_, .int .i64 l0_, .int .i64 c0_, .int .i64 u0_, .int .i64 m0_] := by cases u0; simp_all
  have k1 := h1
  have lt1 : ∀ x ∈ p1, x.block < W.heap.size := by obtain ⟨m, hm⟩ := k1; exact DataW.trod_lt m _ _ _ hm
  obtain ⟨a1, rfl, rfl, rfl, w1⟩ := open_int Try.underlying3 (hval 1 3 v1 rfl rfl) h1
  have k2 := h2
  have lt2 : ∀ x ∈ p2, x.block < W.heap.size := by obtain ⟨m, hm⟩ := k2; exact DataW.trod_lt m _ _ _ hm
  obtain ⟨a2, rfl, rfl, rfl, w2⟩ := open_int Try.underlying3 (hval 2 3 v2 rfl rfl) h2
  have k3 := h3
  have lt3 : ∀ x ∈ p3, x.block < W.heap.size := by obtain ⟨m, hm⟩ := k3; exact DataW.trod_lt m _ _ _ hm
  obtain ⟨a3, rfl, rfl, rfl, w3⟩ := open_int Try.underlying3 (hval 3 3 v3 rfl rfl) h3
  clear hA0 hval0
  refine (walk h0_ l0_ c0_ u0_ m0_ a1 a2 a3 W w1 w2 w3).mono fun e W' ⟨he, bel⟩ => ?_
  subst he
  exact ⟨_, rfl, _, _, _, [], _, [], hW', trodAll_mk1 (shut_bool Try.underlying4 _), (trodAll_cons_mk (Below.trod laidOut (by kernel_rfl) (of_decide_eq_true (by kernel_rfl)) k0 bel lt0) (trodAll_cons_mk (Below.trod laidOut (by kernel_rfl) (of_decide_eq_true (by kernel_rfl)) k1 bel lt1) (trodAll_cons_mk (Below.trod laidOut (by kernel_rfl) (of_decide_eq_true (by kernel_rfl)) k2 bel lt2) (trodAll_cons_mk (Below.trod laidOut (by kernel_rfl) (of_decide_eq_true (by kernel_rfl)) k3 bel lt3) trodAll_mk0)))), rfl, bel.frame _, fun h => by cases h⟩

theorem over : Rows.statRisesRow.holds Try.pinned (OpenSpec.ofChange Rows.statRisesSpec) :=
  OpenClaim.holds_of_wide 5 Try.f5 rfl rfl rfl rfl rfl rfl rfl ⟨rfl, rfl, rfl, rfl, rfl⟩ rfl rfl rfl rfl rfl (by kernel_rfl) Try.func5 (by kernel_rfl)
    (of_decide_eq_true (by kernel_rfl)) (by unfold Func.isWrapper; first | (rw [if_pos (by decide +kernel)]; kernel_rfl) | (rw [if_neg (by decide +kernel)]; exact ⟨rfl, rfl⟩))
    (fun os started H enc _ => lifted os started H enc)

theorem statRisesHolds : Rows.StatRisesSaid := over
#print axioms statRisesHolds
end Go.Proofs.Ytppahbgoecldmaa.statRises
