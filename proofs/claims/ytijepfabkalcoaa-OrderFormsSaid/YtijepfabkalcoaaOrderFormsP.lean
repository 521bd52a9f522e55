/- For any beginning, any history and any order, order.Ends and order.Right answer what chapter 19 says. No condition. -/
import Derived.Test.YtijepfabkalcoaaRows
import Derived.Test.YtijepfabkalcoaaOrG
import Derived.LoopTactic
import Derived.WalkKit
import Derived.ProofKit
import Derived.OpenShut
import Derived.ChangeOld
import Derived.Below
namespace Go.Proofs.Ytijepfabkalcoaa.orderForms
open Go.ChangeShapes Go.WideShapes Go.ChangeAt Go.RowKit
set_option linter.all false

theorem own : ownKnob Try.prog.godebug = none := by kernel_rfl
theorem laidOut : laidOutB Try.prog = true := by kernel_rfl



set_option maxRecDepth 100000 in
set_option maxHeartbeats 12800000 in
theorem walk (a0 : Option Addr) (cap0 : Nat) (z0 : List Pr) (a1 : Option Addr) (cap1 : Nat) (z1 : List EvD) (a2 : Option Addr) (cap2 : Nat) (z2 : List Int) (w : World) (w0 : Prs w a0 cap0 z0) (w1 : Es w a1 cap1 z1) (s1 : MidE z1) (w2 : RI w a2 cap2 z2) :
    Calls Try.prog 5 #[.slice a0 z0.length cap0, .slice a1 z1.length cap1, .slice a2 z2.length cap2] w fun e w' => e = .returned (.bool true) ∧ Below w.heap.size w w' := by
  have hlg := light_anyE a1 cap1 z1 w w1 s1
  have ca := fun W (hb : Below w.heap.size w W) => owake_any W
  have hz1 := w0.1
  have hz2 := w0.2.1
  have hz3 := w1.1
  have hz4 := w1.2.1
  have hz5 := w2.1
  have hz6 := w2.2.1
  unfold maxLen at hz2 hz4 hz6
  by_cases hL : LgtE z1
  rotate_left
  · have cl := hlg 1 (fun h => absurd h hL) (fun _ => rfl)
    clear hlg hL
    go_enter Try.func5, Try.ntmps5
    go_wp2_with (first
      | (go_at_call 20; ((with_reducible refine cl.mono ?_); clear cl; rintro e w3 ⟨rfl, hb1⟩; have HB1 := Lib.hid hb1; clear hb1))
      | (go_at_call 26; ((with_reducible refine (ca _ HB1.out).mono ?_); clear ca; rintro e wa ⟨rfl, hba⟩; have HBa := Lib.hid (pb2 HB1.out hba); clear hba))
      | fail)
    go_ret
    exact ⟨by simp, HBa.out⟩
  have cl := hlg 0 (fun _ => rfl) (fun h => absurd hL h)
  by_cases hA : z0.length ≤ 100 ∧ z2.length ≤ 200
  rotate_left
  · clear hlg hL
    by_cases hA1 : z0.length ≤ 100
    · have h1 : decide (100 < (z0.length : Int)) = false := decide_eq_false (by omega)
      have h2 : decide (200 < (z2.length : Int)) = true := decide_eq_true (by omega)
      have h3 : ¬ (100 : Int) < (z0.length : Int) := by omega
      have h4 : (200 : Int) < (z2.length : Int) := by omega
      clear hA hA1
      go_enter Try.func5, Try.ntmps5
      go_wp2_with (first
        | (go_at_call 20; ((with_reducible refine cl.mono ?_); clear cl; rintro e w3 ⟨rfl, hb1⟩; have HB1 := Lib.hid hb1; clear hb1))
        | (go_at_call 26; ((with_reducible refine (ca _ HB1.out).mono ?_); clear ca; rintro e wa ⟨rfl, hba⟩; have HBa := Lib.hid (pb2 HB1.out hba); clear hba))
        | fail)
      go_ret
      exact ⟨by simp, HBa.out⟩
    · have h1 : decide (100 < (z0.length : Int)) = true := decide_eq_true (by omega)
      have h3 : (100 : Int) < (z0.length : Int) := by omega
      clear hA hA1
      go_enter Try.func5, Try.ntmps5
      go_wp2_with (first
        | (go_at_call 20; ((with_reducible refine cl.mono ?_); clear cl; rintro e w3 ⟨rfl, hb1⟩; have HB1 := Lib.hid hb1; clear hb1))
        | (go_at_call 26; ((with_reducible refine (ca _ HB1.out).mono ?_); clear ca; rintro e wa ⟨rfl, hba⟩; have HBa := Lib.hid (pb2 HB1.out hba); clear hba))
        | fail)
      go_ret
      exact ⟨by simp, HBa.out⟩
  obtain ⟨hA1, hA2⟩ := hA
  have h1 : decide (100 < (z0.length : Int)) = false := decide_eq_false (by omega)
  have h2 : decide (200 < (z2.length : Int)) = false := decide_eq_false (by omega)
  have h3 : ¬ (100 : Int) < (z0.length : Int) := by omega
  have h4 : ¬ (200 : Int) < (z2.length : Int) := by omega
  have hN3 : z1.length ≤ 300 := Nat.le_trans hL.1 (by decide)
  have hps : ∀ e ∈ z1, e.a.ps.length ≤ 1100000 := fun e he => Nat.le_trans (hL.ps e he) (by decide)
  obtain ⟨B, hB⟩ := bool_is (ordR z0 z1 z2)
  have cE := fun W (hb : Below w.heap.size w W) => oends_any a0 a1 a2 cap0 cap1 cap2 z0 z1 z2 W (w0.below hb) (w1.keep hb) (w2.below hb) (by omega) hN3 hps (by omega) B hB _ rfl
  have cR := fun W (hb : Below w.heap.size w W) => rends_any a0 a1 a2 cap0 cap1 cap2 z0 z1 z2 W (w0.below hb) (w1.keep hb) (w2.below hb) (by omega) hN3 (by omega) B hB _ rfl
  have cT := fun W (hb : Below w.heap.size w W) => oright_any a0 a1 a2 cap0 cap1 cap2 z0 z1 z2 W (w0.below hb) (w1.keep hb) (w2.below hb) (by omega) hN3 hps (by omega) B hB
  clear hB hps hN3 hlg hL hA1 hA2 w0 w1 w2
  generalize (if B = true then endP z0 z1 z2 else []) = R at cE cR
  have cS := fun a b c d W h1 h2 => samep_any a b c d R R W h1 h2 true (decide_eq_true rfl)
  cases B <;>
  · go_enter Try.func5, Try.ntmps5
    go_wp2_with (first
      | (go_at_call 20; ((with_reducible refine cl.mono ?_); clear cl; rintro e w3 ⟨rfl, hb1⟩; have HB1 := Lib.hid hb1; clear hb1))
      | (go_at_call 27; ((with_reducible refine (cE _ HB1.out).mono ?_); clear cE; rintro e w4 ⟨ao4, cp4, rfl, hp4, hb4⟩; have HP4 := Lib.hid hp4; have HB4 := Lib.hid (pb2 HB1.out hb4); clear hb4 hp4))
      | (go_at_call 28; ((with_reducible refine (cR _ HB4.out).mono ?_); clear cR; rintro e w5 ⟨ao5, cp5, rfl, hp5, hb5⟩; have HP5 := Lib.hid hp5; have HP45 := Lib.hid (HP4.out.below hb5); have HB5 := Lib.hid (pb2 HB4.out hb5); clear hb5 hp5))
      | (go_at_call 19; ((with_reducible refine (cS _ _ _ _ _ HP45.out HP5.out).mono ?_); clear cS; rintro e w6 ⟨rfl, hb6⟩; have HB6 := Lib.hid (pb2 HB5.out hb6); clear hb6))
      | (go_at_call 29; ((with_reducible refine (cT _ HB6.out).mono ?_); clear cT; rintro e w7 ⟨rfl, hb7⟩; have HB7 := Lib.hid (pb2 HB6.out hb7); clear hb7))
      | (go_at_call 26; ((with_reducible refine (ca _ HB7.out).mono ?_); clear ca; rintro e wa ⟨rfl, hba⟩; have HBa := Lib.hid (pb2 HB7.out hba); clear hba))
      | fail)
    go_ret
    exact ⟨by simp, HBa.out⟩

set_option maxRecDepth 100000 in
theorem lifted (os : Os) (started : os.Started) (H : Type) (enc : TypeId × Value → H) :
    ReturnsInHanded {} Try.checked os 5 .any (Rows.orderFormsSpec.pre6 enc Try.prog Try.f5 Rows.orderFormsRow.domain false) (Rows.orderFormsSpec.post enc Try.prog Try.f5 false true false false) := by
  refine returnsInHanded_of_change_sized (C := Try.checked) own started (by kernel_rfl) Try.func5
    (ChangeSpec.witness6 (enc := enc) (C := Try.checked) false ⟨#[], #[.slice none 0 0, .slice none 0 0, .slice none 0 0], []⟩ 8 (by kernel_rfl) (by kernel_rfl) (by kernel_rfl) (by kernel_rfl)) ?_
  intro W base args ds gs before hval0 hW hcnd hsz _
  have hval : ∀ (j : Nat) t v, Try.f5.params[j]? = some t → args[j]? = some v → Value.okWide Try.prog W .any base t v := hval0
  have hW' := hW
  obtain ⟨p, q, hA0, hV, rfl, hfz, hnd⟩ := hW
  have hA : DataW.TrodAll enc Try.prog W 0 (fun _ => true) true Try.f5.params.toList args.toList ds p := hA0
  rw [Try.params5] at hA hval
  obtain ⟨v0, vs0, d0, ds0, p0, q0, hargs, rfl, rfl, h0, r0⟩ := trodAll_cons hA
  obtain ⟨v1, vs1, d1, ds1, p1, q1, rfl, rfl, rfl, h1, r1⟩ := trodAll_cons r0
  obtain ⟨v2, vs2, d2, ds2, p2, q2, rfl, rfl, rfl, h2, r2⟩ := trodAll_cons r1
  obtain ⟨rfl, rfl, rfl⟩ := trodAll_nil r2
  obtain rfl : args = #[v0, v1, v2] := by cases args; simp_all
  obtain ⟨rfl, rfl⟩ := trodVars_none hV
  have k0 := h0
  have lt0 : ∀ x ∈ p0, x.block < W.heap.size := by obtain ⟨m, hm⟩ := k0; exact DataW.trod_lt m _ _ _ hm
  obtain ⟨b0, l0, c0, rfl⟩ := okWide_slice Try.underlying42 (hval 0 42 v0 rfl rfl)
  obtain ⟨a0, cap0, z0, e0, w0⟩ := open_pairs (enc := enc) (w := W) (v := .slice b0 l0 c0) (fuel := h0.choose) (by simpa [Value.cells] using h0.choose_spec)
  rw [e0] at hval k0 h0 hW' hval0 hA0
  have k1 := h1
  have lt1 : ∀ x ∈ p1, x.block < W.heap.size := by obtain ⟨m, hm⟩ := k1; exact DataW.trod_lt m _ _ _ hm
  obtain ⟨b1, l1, c1, rfl⟩ := okWide_slice Try.underlying52 (hval 1 52 v1 rfl rfl)
  obtain ⟨a1, cap1, z1, e1, w1, s1⟩ := open_events (enc := enc) (w := W) (v := .slice b1 l1 c1) (fuel := h1.choose) (by simpa [Value.cells] using h1.choose_spec) (fun n hn => by simpa using List.all_eq_true.1 hsz n (DataW.weights_mem_each (j := 1) rfl rfl n hn))
  rw [e1] at hval k1 h1 hW' hval0 hA0
  have k2 := h2
  have lt2 : ∀ x ∈ p2, x.block < W.heap.size := by obtain ⟨m, hm⟩ := k2; exact DataW.trod_lt m _ _ _ hm
  obtain ⟨b2, l2, c2, rfl⟩ := okWide_slice Try.underlying37 (hval 2 37 v2 rfl rfl)
  obtain ⟨a2, cap2, z2, e2, w2⟩ := open_ri (enc := enc) (w := W) (v := .slice b2 l2 c2) (fuel := h2.choose) (by simpa [Value.cells] using h2.choose_spec)
  rw [e2] at hval k2 h2 hW' hval0 hA0
  clear hA0 hval0
  rw [e0]; rw [e1]; rw [e2]; refine (walk a0 cap0 z0 a1 cap1 z1 a2 cap2 z2 W w0 w1 s1 w2).mono fun e W' ⟨he, bel⟩ => ?_
  subst he
  exact ⟨_, rfl, _, _, _, [], _, [], hW', trodAll_mk1 (shut_bool Try.underlying4 _), (trodAll_cons_mk (Below.trod laidOut (by kernel_rfl) (of_decide_eq_true (by kernel_rfl)) k0 bel lt0) (trodAll_cons_mk (Below.trod laidOut (by kernel_rfl) (of_decide_eq_true (by kernel_rfl)) k1 bel lt1) (trodAll_cons_mk (Below.trod laidOut (by kernel_rfl) (of_decide_eq_true (by kernel_rfl)) k2 bel lt2) trodAll_mk0))), rfl, bel.frame _, fun h => by cases h⟩

theorem over : Rows.orderFormsRow.holds Try.pinned (OpenSpec.ofChange Rows.orderFormsSpec) :=
  OpenClaim.holds_of_wide 5 Try.f5 rfl rfl rfl rfl rfl rfl rfl ⟨rfl, rfl, rfl, rfl, rfl⟩ rfl rfl rfl rfl rfl (by kernel_rfl) Try.func5 (by kernel_rfl)
    (of_decide_eq_true (by kernel_rfl)) (by unfold Func.isWrapper; first | (rw [if_pos (by decide +kernel)]; kernel_rfl) | (rw [if_neg (by decide +kernel)]; exact ⟨rfl, rfl⟩))
    (fun os started H enc _ => lifted os started H enc)

theorem orderFormsHolds : Rows.OrderFormsSaid := over
#print axioms orderFormsHolds
end Go.Proofs.Ytijepfabkalcoaa.orderForms
