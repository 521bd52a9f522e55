/- StatOff (P12.2): under Off a stat of 0 stays 0 after whatever befell the leaf, and it is left; under any policy, from any stat, after whatever befell the leaf its stat lies from -MaxStat to MaxStat, and what is decided is Leave, Split or Join. No condition. -/
import Derived.Test.YtppahbgoecldmaaRows
import Derived.Test.YtppahbgoecldmaaStW
import Derived.LoopTactic
import Derived.WalkKit
import Derived.ProofKit
import Derived.OpenShut
import Derived.ChangeOld
import Derived.Below
namespace Go.Proofs.Ytppahbgoecldmaa.statOff
open Go.ChangeShapes Go.WideShapes Go.ChangeAt Go.RowKit
set_option linter.all false

theorem own : ownKnob Try.prog.godebug = none := by kernel_rfl
theorem laidOut : laidOutB Try.prog = true := by kernel_rfl

theorem af_zero (l : List Int) : af 0 0 0 0 l = 0 := by
  have h : ∀ l : List Int, l.foldl (fun x w => hm (x + chg 0 0 0 w)) 0 = 0 := by
    intro l
    induction l with
    | nil => rfl
    | cons x l ih =>
      have e : hm (0 + chg 0 0 0 x) = 0 := by
        have : chg 0 0 0 x = 0 := by unfold chg; split; rfl; split; rfl; split <;> rfl
        rw [this]; decide
      rw [List.foldl_cons, e]
      exact ih
  unfold af
  rw [show hm 0 = 0 by decide]
  exact h l
theorem off_after (a : Option Addr) (cap : Nat) (zs : List Int) (w : World) (R : RI w a cap zs) : Calls Try.prog 13 #[.agg #[.int .i64 100000, .int .i64 (-100000), .int .i64 0, .int .i64 0, .int .i64 0], .int .i64 0, .slice a zs.length cap] w fun e w' => e = .returned (.int .i64 0) ∧ Below w.heap.size w w' := by
  have := after_to 100000 (-100000) 0 0 0 100000 (-100000) 0 0 0 0 a cap zs (by decide) w R
  rwa [af_zero] at this
theorem off_dec (w : World) : Calls Try.prog 11 #[.agg #[.int .i64 100000, .int .i64 (-100000), .int .i64 0, .int .i64 0, .int .i64 0], .int .i64 0] w fun e w' => e = .returned (.int .i64 0) ∧ Below w.heap.size w w' := by
  have := decide_to 100000 (-100000) 0 0 0 100000 (-100000) 0 0 0 0 (by decide) w
  rwa [show dc 100000 (-100000) 0 = 0 by decide] at this
theorem dc_bd (h l s : Int) : 0 ≤ dc h l s ∧ dc h l s ≤ 2 := by
  unfold dc
  split
  · omega
  split <;> omega

set_option maxRecDepth 100000 in
set_option maxHeartbeats 12800000 in
theorem walk (h0 l0 c0 u0 m0 : Int) (a1 : Int) (a2 : Option Addr) (cap2 : Nat) (z2 : List Int) (w : World) (w1 : (Lit.int .i64 a1).wf = true) (w2 : RI w a2 cap2 z2) :
    Calls Try.prog 4 #[.agg #[.int .i64 h0, .int .i64 l0, .int .i64 c0, .int .i64 u0, .int .i64 m0], .int .i64 a1, .slice a2 z2.length cap2] w fun e w' => e = .returned (.bool true) ∧ Below w.heap.size w w' := by
  have HR := Lib.hid w2
  have hc1 := w2.1
  have hc2 := w2.2.1
  unfold maxLen at hc2
  clear w2
  by_cases hbig : 200 < z2.length
  · have hbig' : (200 : Int) < (z2.length : Int) := by omega
    go_enter Try.func4, Try.ntmps4
    go_wp2_with (go_at_call 8; ((with_reducible refine (awake_any _).mono ?_); rintro e w3 ⟨rfl, hb⟩))
    go_ret
    exact ⟨rfl, bst ((Below.refl _ _).alloc (Nat.le_refl _) _) hb⟩
  have hbig' : ¬ (200 : Int) < (z2.length : Int) := by omega
  obtain ⟨x0, x1, x2, x3, x4, HC⟩ : ∃ x0 x1 x2 x3 x4, Hid (Cl h0 l0 c0 u0 m0 x0 x1 x2 x3 x4) := ⟨_, _, _, _, _, Lib.hid ⟨rfl, rfl, rfl, rfl, rfl⟩⟩
  have hs := af_bd x2 x3 x4 a1 z2
  have ca := fun w R => after_to h0 l0 c0 u0 m0 x0 x1 x2 x3 x4 a1 a2 cap2 z2 HC.out w R
  obtain ⟨s, es⟩ : ∃ s, af x2 x3 x4 a1 z2 = s := ⟨_, rfl⟩
  rw [es] at hs
  simp only [es] at ca
  clear es
  have hd := dc_bd x0 x1 s
  have cd := fun w => decide_to h0 l0 c0 u0 m0 x0 x1 x2 x3 x4 s HC.out w
  obtain ⟨d, ed⟩ : ∃ d, dc x0 x1 s = d := ⟨_, rfl⟩
  rw [ed] at hd
  simp only [ed] at cd
  clear ed
  obtain ⟨hs0, hs1⟩ := hs
  obtain ⟨hd0, hd1⟩ := hd
  have hB0 := Lib.hid ((Below.refl w.heap.size w).alloc (Nat.le_refl _) (.cells #[.int .i64 h0, .int .i64 l0, .int .i64 c0, .int .i64 u0, .int .i64 m0] 23))
  have HP0 := Lib.hid (Pl.new w 23 (h := h0) (l := l0) (c := c0) (u := u0) (m := m0))
  go_enter Try.func4, Try.ntmps4
  go_wp2_with (first
    | (go_at_call 13; ((with_reducible refine (off_after _ _ _ _ (HR.out.below (bst hB0.out hB1.out))).mono ?_); rintro e W2 ⟨rfl, h⟩; have hB2 := Lib.hid (bst hB1.out h); clear h))
    | (go_at_call 11; ((with_reducible refine (off_dec _).mono ?_); rintro e W4 ⟨rfl, h⟩; have hB4 := Lib.hid (bst hB3.out h); have HP4 := Lib.hid (HP0.out.keep hB4.out); obtain ⟨p0, p1, p2, p3, p4⟩ := HP4.out; clear h))
    | (go_at_call 13; ((with_reducible refine (ca _ (HR.out.below (bst hB0.out hB4.out))).mono ?_); rintro e W5 ⟨rfl, h⟩; have HP5 := Lib.hid (HP4.out.keep h); have hB5 := Lib.hid (bst hB4.out h); clear h p0 p1 p2 p3 p4; obtain ⟨p0, p1, p2, p3, p4⟩ := HP5.out))
    | (go_at_call 11; ((with_reducible refine (cd _).mono ?_); rintro e W6 ⟨rfl, h⟩; have hB6 := Lib.hid (bst hB5.out h); clear h p0 p1 p2 p3 p4))
    | (go_at_call 8; ((with_reducible refine (awake_any _).mono ?_); rintro e W7 ⟨rfl, h⟩; have hB7 := Lib.hid (bst hB6.out h); clear h))
    | (go_at_call 14; ((with_reducible refine (off_any _).mono ?_); rintro e W3 ⟨rfl, h⟩; have hB3 := Lib.hid (bst hB2.out h); clear h))
    | (go_at_call 14; ((with_reducible refine (off_any _).mono ?_); rintro e W1 ⟨rfl, h⟩; have hB1 := Lib.hid h; clear h)))
  go_ret
  exact ⟨rfl, bst hB0.out hB7.out⟩

set_option maxRecDepth 100000 in
theorem lifted (os : Os) (started : os.Started) (H : Type) (enc : TypeId × Value → H) :
    ReturnsInHanded {} Try.checked os 4 .any (Rows.statOffSpec.pre6 enc Try.prog Try.f4 Rows.statOffRow.domain false) (Rows.statOffSpec.post enc Try.prog Try.f4 false true false false) := by
  refine returnsInHanded_of_change (C := Try.checked) own started (by kernel_rfl) Try.func4
    (ChangeSpec.witness6 (enc := enc) (C := Try.checked) false ⟨#[], #[.agg #[.int .i64 0, .int .i64 0, .int .i64 0, .int .i64 0, .int .i64 0], .int .i64 0, .slice none 0 0], []⟩ 8 (by kernel_rfl) (by kernel_rfl) (by kernel_rfl) (by kernel_rfl)) ?_
  intro W base args ds gs before hval0 hW hcnd _
  have hval : ∀ (j : Nat) t v, Try.f4.params[j]? = some t → args[j]? = some v → Value.okWide Try.prog W .any base t v := hval0
  have hW' := hW
  obtain ⟨p, q, hA0, hV, rfl, hfz, hnd⟩ := hW
  have hA : DataW.TrodAll enc Try.prog W 0 (fun _ => true) true Try.f4.params.toList args.toList ds p := hA0
  rw [Try.params4] at hA hval
  obtain ⟨v0, vs0, d0, ds0, p0, q0, hargs, rfl, rfl, h0, r0⟩ := trodAll_cons hA
  obtain ⟨v1, vs1, d1, ds1, p1, q1, rfl, rfl, rfl, h1, r1⟩ := trodAll_cons r0
  obtain ⟨v2, vs2, d2, ds2, p2, q2, rfl, rfl, rfl, h2, r2⟩ := trodAll_cons r1
  obtain ⟨rfl, rfl, rfl⟩ := trodAll_nil r2
  obtain rfl : args = #[v0, v1, v2] := by cases args; simp_all
  obtain ⟨rfl, rfl⟩ := trodVars_none hV
  have k0 := h0
  have lt0 : ∀ x ∈ p0, x.block < W.heap.size := by obtain ⟨m, hm⟩ := k0; exact DataW.trod_lt m _ _ _ hm
  obtain ⟨u0, rfl, _⟩ := okWide_struct Try.underlying23 (hval 0 23 v0 rfl rfl)
  obtain ⟨h0_, l0_, c0_, u0_, m0_, e0⟩ := fields_pol (enc := enc) (w := W) (cs := u0.toList) (fuel := h0.choose) (by simpa [Value.cells] using h0.choose_spec)
  obtain rfl : u0 = #[.int .i64 h0_, .int .i64 l0_, .int .i64 c0_, .int .i64 u0_, .int .i64 m0_] := by cases u0; simp_all
  have k1 := h1
  have lt1 : ∀ x ∈ p1, x.block < W.heap.size := by obtain ⟨m, hm⟩ := k1; exact DataW.trod_lt m _ _ _ hm
  obtain ⟨a1, rfl, rfl, rfl, w1⟩ := open_int Try.underlying3 (hval 1 3 v1 rfl rfl) h1
  have k2 := h2
  have lt2 : ∀ x ∈ p2, x.block < W.heap.size := by obtain ⟨m, hm⟩ := k2; exact DataW.trod_lt m _ _ _ hm
  obtain ⟨b2, l2, c2, rfl⟩ := okWide_slice Try.underlying24 (hval 2 24 v2 rfl rfl)
  obtain ⟨a2, cap2, z2, e2, w2⟩ := open_ri (enc := enc) (w := W) (v := .slice b2 l2 c2) (fuel := h2.choose) (by simpa [Value.cells] using h2.choose_spec)
  rw [e2] at hval k2 h2 hW' hval0 hA0
  clear hA0 hval0
  rw [e2]; refine (walk h0_ l0_ c0_ u0_ m0_ a1 a2 cap2 z2 W w1 w2).mono fun e W' ⟨he, bel⟩ => ?_
  subst he
  exact ⟨_, rfl, _, _, _, [], _, [], hW', trodAll_mk1 (shut_bool Try.underlying4 _), (trodAll_cons_mk (Below.trod laidOut (by kernel_rfl) (of_decide_eq_true (by kernel_rfl)) k0 bel lt0) (trodAll_cons_mk (Below.trod laidOut (by kernel_rfl) (of_decide_eq_true (by kernel_rfl)) k1 bel lt1) (trodAll_cons_mk (Below.trod laidOut (by kernel_rfl) (of_decide_eq_true (by kernel_rfl)) k2 bel lt2) trodAll_mk0))), rfl, bel.frame _, fun h => by cases h⟩

theorem over : Rows.statOffRow.holds Try.pinned (OpenSpec.ofChange Rows.statOffSpec) :=
  OpenClaim.holds_of_wide 4 Try.f4 rfl rfl rfl rfl rfl rfl rfl ⟨rfl, rfl, rfl, rfl, rfl⟩ rfl rfl rfl rfl rfl (by kernel_rfl) Try.func4 (by kernel_rfl)
    (of_decide_eq_true (by kernel_rfl)) (by unfold Func.isWrapper; first | (rw [if_pos (by decide +kernel)]; kernel_rfl) | (rw [if_neg (by decide +kernel)]; exact ⟨rfl, rfl⟩))
    (fun os started H enc _ => lifted os started H enc)

theorem statOffHolds : Rows.StatOffSaid := over
#print axioms statOffHolds
end Go.Proofs.Ytppahbgoecldmaa.statOff
