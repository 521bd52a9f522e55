/- PolicyEach (P11.1): for any two policies: each number of what Clamp answers hangs on that number alone: with the other numbers of another policy it is the same; High is 1 or more, Low 0 or less; both policies read as they did. No condition. -/
import Derived.Test.YtndlnekibfcjnaaRows
import Derived.Test.YtndlnekibfcjnaaPoE
import Derived.LoopTactic
import Derived.WalkKit
import Derived.ProofKit
import Derived.OpenShut
import Derived.ChangeOld
import Derived.Below
namespace Go.Proofs.Ytndlnekibfcjnaa.policyEach
open Go.ChangeShapes Go.WideShapes Go.ChangeAt Go.RowKit
set_option linter.all false

theorem own : ownKnob Try.prog.godebug = none := by kernel_rfl
theorem laidOut : laidOutB Try.prog = true := by kernel_rfl

section
variable {w W W' : World} {A M : Nat} {h0 l0 c0 u0 m0 h1 l1 c1 u1 m1 x0 x1 x2 x3 x4 y0 y1 y2 y3 y4 : Int}
theorem pe_s (E : EW w W A M h0 l0 c0 u0 m0 h1 l1 c1 u1 m1 x0 x1 x2 x3 x4 h0 l1 c1 u1 m1) : W.cell? ⟨M, 0, none⟩ = some (.int .i64 h0) ∧ W.cell? ⟨M, 1, none⟩ = some (.int .i64 l1) ∧ W.cell? ⟨M, 2, none⟩ = some (.int .i64 c1) ∧ W.cell? ⟨M, 3, none⟩ = some (.int .i64 u1) ∧ W.cell? ⟨M, 4, none⟩ = some (.int .i64 m1) ∧ W.cell? ⟨A, 0, none⟩ = some (.int .i64 x0) ∧ EW w W A M h0 l0 c0 u0 m0 h1 l1 c1 u1 m1 x0 x1 x2 x3 x4 h0 l1 c1 u1 m1 := ⟨E.m.p.1, E.m.p.2.1, E.m.p.2.2.1, E.m.p.2.2.2.1, E.m.p.2.2.2.2, E.a.1, E⟩
theorem pe_of (H : W.cell? ⟨M, 0, none⟩ = some (.int .i64 h0) ∧ W.cell? ⟨M, 1, none⟩ = some (.int .i64 l1) ∧ W.cell? ⟨M, 2, none⟩ = some (.int .i64 c1) ∧ W.cell? ⟨M, 3, none⟩ = some (.int .i64 u1) ∧ W.cell? ⟨M, 4, none⟩ = some (.int .i64 m1) ∧ W.cell? ⟨A, 0, none⟩ = some (.int .i64 x0) ∧ EW w W A M h0 l0 c0 u0 m0 h1 l1 c1 u1 m1 x0 x1 x2 x3 x4 h0 l1 c1 u1 m1) : EW w W A M h0 l0 c0 u0 m0 h1 l1 c1 u1 m1 x0 x1 x2 x3 x4 h0 l1 c1 u1 m1 := H.2.2.2.2.2.2
theorem pe_first {t : TypeId} (W : World) (W1 : World) (hb : Below ((w.alloc (.cells #[.int .i64 h0, .int .i64 l0, .int .i64 c0, .int .i64 u0, .int .i64 m0] t)).alloc (.cells #[.int .i64 h1, .int .i64 l1, .int .i64 c1, .int .i64 u1, .int .i64 m1] t)).heap.size ((w.alloc (.cells #[.int .i64 h0, .int .i64 l0, .int .i64 c0, .int .i64 u0, .int .i64 m0] t)).alloc (.cells #[.int .i64 h1, .int .i64 l1, .int .i64 c1, .int .i64 u1, .int .i64 m1] t)) W1) (hW : W = ((W1.alloc (.cells #[.int .i64 x0, .int .i64 x1, .int .i64 x2, .int .i64 x3, .int .i64 x4] t)).alloc (.cells #[.int .i64 h0, .int .i64 l1, .int .i64 c1, .int .i64 u1, .int .i64 m1] t)).drew) : W.cell? ⟨W1.heap.size + 1, 0, none⟩ = some (.int .i64 h0) ∧ W.cell? ⟨W1.heap.size + 1, 1, none⟩ = some (.int .i64 l1) ∧ W.cell? ⟨W1.heap.size + 1, 2, none⟩ = some (.int .i64 c1) ∧ W.cell? ⟨W1.heap.size + 1, 3, none⟩ = some (.int .i64 u1) ∧ W.cell? ⟨W1.heap.size + 1, 4, none⟩ = some (.int .i64 m1) ∧ W.cell? ⟨W1.heap.size, 0, none⟩ = some (.int .i64 x0) ∧ EW w W W1.heap.size (W1.heap.size + 1) h0 l0 c0 u0 m0 h1 l1 c1 u1 m1 x0 x1 x2 x3 x4 h0 l1 c1 u1 m1 := by
  subst hW
  exact pe_s ((EW.first w hb).keep (Below.refl _ _).drew)
end

set_option maxRecDepth 100000 in
set_option maxHeartbeats 12800000 in
theorem walk (h0 l0 c0 u0 m0 : Int) (h1 l1 c1 u1 m1 : Int) (w : World)  :
    Calls Try.prog 5 #[.agg #[.int .i64 h0, .int .i64 l0, .int .i64 c0, .int .i64 u0, .int .i64 m0], .agg #[.int .i64 h1, .int .i64 l1, .int .i64 c1, .int .i64 u1, .int .i64 m1]] w fun e w' => e = .returned (.bool true) ∧ Below w.heap.size w w' := by
  obtain ⟨x0, hx0⟩ : ∃ x, wi 1 h0 100000 = x := ⟨_, rfl⟩
  obtain ⟨x1, hx1⟩ : ∃ x, wi (-100000) l0 0 = x := ⟨_, rfl⟩
  obtain ⟨x2, hx2⟩ : ∃ x, wi (-100000) c0 100000 = x := ⟨_, rfl⟩
  obtain ⟨x3, hx3⟩ : ∃ x, wi (-100000) u0 100000 = x := ⟨_, rfl⟩
  obtain ⟨x4, hx4⟩ : ∃ x, wi (-100000) m0 100000 = x := ⟨_, rfl⟩
  obtain ⟨y0, hy0⟩ : ∃ x, wi 1 h1 100000 = x := ⟨_, rfl⟩
  obtain ⟨y1, hy1⟩ : ∃ x, wi (-100000) l1 0 = x := ⟨_, rfl⟩
  obtain ⟨y2, hy2⟩ : ∃ x, wi (-100000) c1 100000 = x := ⟨_, rfl⟩
  obtain ⟨y3, hy3⟩ : ∃ x, wi (-100000) u1 100000 = x := ⟨_, rfl⟩
  obtain ⟨y4, hy4⟩ : ∃ x, wi (-100000) m1 100000 = x := ⟨_, rfl⟩
  have q0 : 1 ≤ x0 := by unfold wi at hx0; omega
  have q1 : x1 ≤ 0 := by unfold wi at hx1; omega
  have C0 := Lib.hid (show Cl h0 l0 c0 u0 m0 x0 x1 x2 x3 x4 from ⟨hx0, hx1, hx2, hx3, hx4⟩)
  have C1 := Lib.hid (show Cl h0 l1 c1 u1 m1 x0 y1 y2 y3 y4 from ⟨hx0, hy1, hy2, hy3, hy4⟩)
  have C2 := Lib.hid (show Cl h1 l0 c0 u1 m1 y0 x1 x2 y3 y4 from ⟨hy0, hx1, hx2, hy3, hy4⟩)
  have C3 := Lib.hid (show Cl h1 l1 c1 u0 m0 y0 y1 y2 x3 x4 from ⟨hy0, hy1, hy2, hx3, hx4⟩)
  clear hx0 hx1 hx2 hx3 hx4 hy0 hy1 hy2 hy3 hy4
  have f0 := fld0
  go_enter Try.func5, Try.ntmps5
  go_wp2_with (first
    | (go_at_call 7; ((with_reducible refine (clamp_to _ _ _ _ _ _ _ _ _ _ C0.out _).mono ?_); rintro e W1 ⟨rfl, hb1⟩; have HP := ((Pl.new w 23 (h := h0) (l := l0) (c := c0) (u := u0) (m := m0)).keep ((Below.refl _ _).alloc (Nat.le_refl _) (.cells #[.int .i64 h1, .int .i64 l1, .int .i64 c1, .int .i64 u1, .int .i64 m1] 23))).keep hb1; have HQ := (Pl.new (w.alloc (.cells #[.int .i64 h0, .int .i64 l0, .int .i64 c0, .int .i64 u0, .int .i64 m0] 23)) 23 (h := h1) (l := l1) (c := c1) (u := u1) (m := m1)).keep hb1; rw [World.size_alloc] at HQ; have qa0 := fun o => (HQ.past o).1; have qa1 := fun o => (HQ.past o).2.1; have qa2 := fun o => (HQ.past o).2.2.1; have qa3 := fun o => (HQ.past o).2.2.2.1; have qa4 := fun o => (HQ.past o).2.2.2.2; have pa0 := fun o o' => ((HP.past o).past o').1; clear HP HQ)))
  clear qa0 qa1 qa2 qa3 qa4 pa0
  go_region_held3 (fun W => W.cell? ⟨W1.heap.size + 1, 0, none⟩ = some (.int .i64 h0) ∧ W.cell? ⟨W1.heap.size + 1, 1, none⟩ = some (.int .i64 l1) ∧ W.cell? ⟨W1.heap.size + 1, 2, none⟩ = some (.int .i64 c1) ∧ W.cell? ⟨W1.heap.size + 1, 3, none⟩ = some (.int .i64 u1) ∧ W.cell? ⟨W1.heap.size + 1, 4, none⟩ = some (.int .i64 m1) ∧ W.cell? ⟨W1.heap.size, 0, none⟩ = some (.int .i64 x0) ∧ EW w W W1.heap.size (W1.heap.size + 1) h0 l0 c0 u0 m0 h1 l1 c1 u1 m1 x0 x1 x2 x3 x4 h0 l1 c1 u1 m1)
    (first | exact pe_first _ _ hb1 rfl | exact pe_s ((pe_of (by assumption)).keep hb) | go_keep)
    (first | (go_at_call 7; ((with_reducible refine (clamp_to _ _ _ _ _ _ _ _ _ _ C1.out _).mono ?_); rintro e w3 ⟨rfl, hb⟩)))
  have E5 := pe_of (by assumption)
  clear hb
  generalize W1.heap.size + 1 = M at E5 ⊢
  generalize W1.heap.size = A at E5 ⊢
  have HE := Lib.hid E5
  obtain ⟨⟨gp0, gp1, gp2, gp3, gp4⟩, ⟨gq0, gq1, gq2, gq3, gq4⟩, ⟨ga0, ga1, ga2, ga3, ga4⟩, ⟨⟨gm0, gm1, gm2, gm3, gm4⟩, gf⟩, d0, d2, gb⟩ := E5
  have gf0 := gf 0 (by decide)
  have gf1 := gf 1 (by decide)
  have gf2 := gf 2 (by decide)
  have gf3 := gf 3 (by decide)
  have gf4 := gf 4 (by decide)
  clear gf gb
  go_wp2_with (fail)
  clear gp0 gp1 gp2 gp3 gp4 gq0 gq1 gq2 gq3 gq4 ga0 ga1 ga2 ga3 ga4 gm0 gm1 gm2 gm3 gm4 gf0 gf1 gf2 gf3 gf4
  obtain ⟨W6, hW6, E6⟩ := HE.out.setQ.name
  rw [← hW6]
  clear hW6 HE
  have HE := Lib.hid E6
  have dp : M ≠ w.heap.size := by omega
  obtain ⟨⟨gp0, gp1, gp2, gp3, gp4⟩, ⟨gq0, gq1, gq2, gq3, gq4⟩, ⟨ga0, ga1, ga2, ga3, ga4⟩, ⟨⟨gm0, gm1, gm2, gm3, gm4⟩, gf⟩, d0, d2, gb⟩ := E6
  have gf0 := gf 0 (by decide)
  have gf1 := gf 1 (by decide)
  have gf2 := gf 2 (by decide)
  have gf3 := gf 3 (by decide)
  have gf4 := gf 4 (by decide)
  clear gf gb
  go_region_held3 (fun W => W.cell? ⟨w.heap.size, 1, none⟩ = some (.int .i64 l0) ∧ W.cell? ⟨w.heap.size, 2, none⟩ = some (.int .i64 c0))
    (first | exact two_drew gp1 gp2 _ rfl | exact two_set (by assumption) dp | go_keep)
    (fail)
  clear gp0 gp1 gp2 gp3 gp4 gq0 gq1 gq2 gq3 gq4 ga0 ga1 ga2 ga3 ga4 gm0 gm1 gm2 gm3 gm4 gf0 gf1 gf2 gf3 gf4
  obtain ⟨W7, hW7, E7⟩ := ((EW.set2 (z := c0) (EW.set1 (z := l0) HE.out)).keep (Below.refl _ _).drew).name
  have HE7 := Lib.hid E7
  clear HE
  rw [← hW7]
  clear hW7
  obtain ⟨gm0, gm1, gm2, gm3, gm4⟩ := E7.m.p
  clear E7
  go_wp2_with (first
    | (go_at_call 7; ((with_reducible refine (clamp_to _ _ _ _ _ _ _ _ _ _ C2.out _).mono ?_); rintro e W8 ⟨rfl, hb8⟩; clear gm0 gm1 gm2 gm3 gm4; have E8 := HE7.out.keep hb8; have HE8 := Lib.hid E8; have gq0 := fun o => (E8.q.past o).1; have gq1 := fun o => (E8.q.past o).2.1; have gq2 := fun o => (E8.q.past o).2.2.1; have gq3 := fun o => (E8.q.past o).2.2.2.1; have gq4 := fun o => (E8.q.past o).2.2.2.2; have ga0 := fun o => (E8.a.past o).1; have ga1 := fun o => (E8.a.past o).2.1; have ga2 := fun o => (E8.a.past o).2.2.1; have ga3 := fun o => (E8.a.past o).2.2.2.1; have ga4 := fun o => (E8.a.past o).2.2.2.2; have gm0 := fun o => (E8.m.past o).p.1; have gm1 := fun o => (E8.m.past o).p.2.1; have gm2 := fun o => (E8.m.past o).p.2.2.1; have gm3 := fun o => (E8.m.past o).p.2.2.2.1; have gm4 := fun o => (E8.m.past o).p.2.2.2.2; have gf0 := fun o => (E8.m.past o).f 0 (by decide); have gf1 := fun o => (E8.m.past o).f 1 (by decide); have gf2 := fun o => (E8.m.past o).f 2 (by decide); have gf3 := fun o => (E8.m.past o).f 3 (by decide); have gf4 := fun o => (E8.m.past o).f 4 (by decide); clear E8 hb8)))
  clear gq0 gq1 gq2 gq3 gq4 ga0 ga1 ga2 ga3 ga4 gm0 gm1 gm2 gm3 gm4 gf0 gf1 gf2 gf3 gf4 HE7
  obtain ⟨W9, hW9, E9⟩ := (HE8.out.past (.cells #[.int .i64 y0, .int .i64 x1, .int .i64 x2, .int .i64 y3, .int .i64 y4] 23)).setQ.name
  rw [← hW9]
  clear hW9 HE8
  have HE := Lib.hid E9
  obtain ⟨⟨gp0, gp1, gp2, gp3, gp4⟩, ⟨gq0, gq1, gq2, gq3, gq4⟩, ⟨ga0, ga1, ga2, ga3, ga4⟩, ⟨⟨gm0, gm1, gm2, gm3, gm4⟩, gf⟩, d0, d2, gb⟩ := E9
  have gf0 := gf 0 (by decide)
  have gf1 := gf 1 (by decide)
  have gf2 := gf 2 (by decide)
  have gf3 := gf 3 (by decide)
  have gf4 := gf 4 (by decide)
  clear gf gb
  go_region_held3 (fun W => W.cell? ⟨w.heap.size, 3, none⟩ = some (.int .i64 u0) ∧ W.cell? ⟨w.heap.size, 4, none⟩ = some (.int .i64 m0))
    (first | exact two_drew gp3 gp4 _ rfl | exact two_set (by assumption) dp | go_keep)
    (fail)
  clear gp0 gp1 gp2 gp3 gp4 gq0 gq1 gq2 gq3 gq4 ga0 ga1 ga2 ga3 ga4 gm0 gm1 gm2 gm3 gm4 gf0 gf1 gf2 gf3 gf4
  obtain ⟨W10, hW10, E10⟩ := ((EW.set4 (z := m0) (EW.set3 (z := u0) HE.out)).keep (Below.refl _ _).drew).name
  have HE10 := Lib.hid E10
  clear HE
  rw [← hW10]
  clear hW10
  obtain ⟨gm0, gm1, gm2, gm3, gm4⟩ := E10.m.p
  clear E10
  have z0 : decide (x0 ≥ 1) = true := by simp; omega
  go_wp2_with (first
    | (go_at_call 7; ((with_reducible refine (clamp_to _ _ _ _ _ _ _ _ _ _ C3.out _).mono ?_); rintro e W11 ⟨rfl, hb11⟩; clear gm0 gm1 gm2 gm3 gm4; have E11 := HE10.out.keep hb11; have HE11 := Lib.hid E11; have gq0 := fun o => (E11.q.past o).1; have gq1 := fun o => (E11.q.past o).2.1; have gq2 := fun o => (E11.q.past o).2.2.1; have gq3 := fun o => (E11.q.past o).2.2.2.1; have gq4 := fun o => (E11.q.past o).2.2.2.2; have ga0 := fun o => (E11.a.past o).1; have ga1 := fun o => (E11.a.past o).2.1; have ga2 := fun o => (E11.a.past o).2.2.1; have ga3 := fun o => (E11.a.past o).2.2.2.1; have ga4 := fun o => (E11.a.past o).2.2.2.2; have gm0 := fun o => (E11.m.past o).p.1; have gm1 := fun o => (E11.m.past o).p.2.1; have gm2 := fun o => (E11.m.past o).p.2.2.1; have gm3 := fun o => (E11.m.past o).p.2.2.2.1; have gm4 := fun o => (E11.m.past o).p.2.2.2.2; have gf0 := fun o => (E11.m.past o).f 0 (by decide); have gf1 := fun o => (E11.m.past o).f 1 (by decide); have gf2 := fun o => (E11.m.past o).f 2 (by decide); have gf3 := fun o => (E11.m.past o).f 3 (by decide); have gf4 := fun o => (E11.m.past o).f 4 (by decide); clear E11 hb11))
    | (go_at_call 12; ((with_reducible refine (awake_any _).mono ?_); rintro e W12 ⟨rfl, hb12⟩)))
  go_ret
  exact ⟨rfl, bst (HE11.out.past _).b hb12⟩

set_option maxRecDepth 100000 in
theorem lifted (os : Os) (started : os.Started) (H : Type) (enc : TypeId × Value → H) :
    ReturnsInHanded {} Try.checked os 5 .any (Rows.policyEachSpec.pre6 enc Try.prog Try.f5 Rows.policyEachRow.domain false) (Rows.policyEachSpec.post enc Try.prog Try.f5 false true false false) := by
  refine returnsInHanded_of_change (C := Try.checked) own started (by kernel_rfl) Try.func5
    (ChangeSpec.witness6 (enc := enc) (C := Try.checked) false ⟨#[], #[.agg #[.int .i64 0, .int .i64 0, .int .i64 0, .int .i64 0, .int .i64 0], .agg #[.int .i64 0, .int .i64 0, .int .i64 0, .int .i64 0, .int .i64 0]], []⟩ 8 (by kernel_rfl) (by kernel_rfl) (by kernel_rfl) (by kernel_rfl)) ?_
  intro W base args ds gs before hval0 hW hcnd _
  have hval : ∀ (j : Nat) t v, Try.f5.params[j]? = some t → args[j]? = some v → Value.okWide Try.prog W .any base t v := hval0
  have hW' := hW
  obtain ⟨p, q, hA0, hV, rfl, hfz, hnd⟩ := hW
  have hA : DataW.TrodAll enc Try.prog W 0 (fun _ => true) true Try.f5.params.toList args.toList ds p := hA0
  rw [Try.params5] at hA hval
  obtain ⟨v0, vs0, d0, ds0, p0, q0, hargs, rfl, rfl, h0, r0⟩ := trodAll_cons hA
  obtain ⟨v1, vs1, d1, ds1, p1, q1, rfl, rfl, rfl, h1, r1⟩ := trodAll_cons r0
  obtain ⟨rfl, rfl, rfl⟩ := trodAll_nil r1
  obtain rfl : args = #[v0, v1] := by cases args; simp_all
  obtain ⟨rfl, rfl⟩ := trodVars_none hV
  have k0 := h0
  have lt0 : ∀ x ∈ p0, x.block < W.heap.size := by obtain ⟨m, hm⟩ := k0; exact DataW.trod_lt m _ _ _ hm
  obtain ⟨u0, rfl, _⟩ := okWide_struct Try.underlying23 (hval 0 23 v0 rfl rfl)
  obtain ⟨h0_, l0_, c0_, u0_, m0_, e0⟩ := fields_pol (enc := enc) (w := W) (cs := u0.toList) (fuel := h0.choose) (by simpa [Value.cells] using h0.choose_spec)
  obtain rfl : u0 = #[.int .i64 h0_, .int .i64 l0_, .int .i64 c0_, .int .i64 u0_, .int .i64 m0_] := by cases u0; simp_all
  have k1 := h1
  have lt1 : ∀ x ∈ p1, x.block < W.heap.size := by obtain ⟨m, hm⟩ := k1; exact DataW.trod_lt m _ _ _ hm
  obtain ⟨u1, rfl, _⟩ := okWide_struct Try.underlying23 (hval 1 23 v1 rfl rfl)
  obtain ⟨h1_, l1_, c1_, u1_, m1_, e1⟩ := fields_pol (enc := enc) (w := W) (cs := u1.toList) (fuel := h1.choose) (by simpa [Value.cells] using h1.choose_spec)
  obtain rfl : u1 = #[.int .i64 h1_, .int .i64 l1_, .int .i64 c1_, .int .i64 u1_, .int .i64 m1_] := by cases u1; simp_all
  clear hA0 hval0
  refine (walk h0_ l0_ c0_ u0_ m0_ h1_ l1_ c1_ u1_ m1_ W ).mono fun e W' ⟨he, bel⟩ => ?_
  subst he
  exact ⟨_, rfl, _, _, _, [], _, [], hW', trodAll_mk1 (shut_bool Try.underlying4 _), (trodAll_cons_mk (Below.trod laidOut (by kernel_rfl) (of_decide_eq_true (by kernel_rfl)) k0 bel lt0) (trodAll_cons_mk (Below.trod laidOut (by kernel_rfl) (of_decide_eq_true (by kernel_rfl)) k1 bel lt1) trodAll_mk0)), rfl, bel.frame _, fun h => by cases h⟩

theorem over : Rows.policyEachRow.holds Try.pinned (OpenSpec.ofChange Rows.policyEachSpec) :=
  OpenClaim.holds_of_wide 5 Try.f5 rfl rfl rfl rfl rfl rfl rfl ⟨rfl, rfl, rfl, rfl, rfl⟩ rfl rfl rfl rfl rfl (by kernel_rfl) Try.func5 (by kernel_rfl)
    (of_decide_eq_true (by kernel_rfl)) (by unfold Func.isWrapper; first | (rw [if_pos (by decide +kernel)]; kernel_rfl) | (rw [if_neg (by decide +kernel)]; exact ⟨rfl, rfl⟩))
    (fun os started H enc _ => lifted os started H enc)

theorem policyEachHolds : Rows.PolicyEachSaid := over
#print axioms policyEachHolds
end Go.Proofs.Ytndlnekibfcjnaa.policyEach
