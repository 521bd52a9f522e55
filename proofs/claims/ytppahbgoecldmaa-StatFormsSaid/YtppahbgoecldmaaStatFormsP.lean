/- StatForms (P12.1): under any policy, for any stat and whatever befell the leaf (one thing, or up to 200 in a row): Next, Decide and After answer what the document's own words say. No condition. -/
import Derived.Test.YtppahbgoecldmaaRows
import Derived.Test.YtppahbgoecldmaaStW
import Derived.LoopTactic
import Derived.WalkKit
import Derived.ProofKit
import Derived.OpenShut
import Derived.ChangeOld
import Derived.Below
namespace Go.Proofs.Ytppahbgoecldmaa.statForms
open Go.ChangeShapes Go.WideShapes Go.ChangeAt Go.RowKit
set_option linter.all false

theorem own : ownKnob Try.prog.godebug = none := by kernel_rfl
theorem laidOut : laidOutB Try.prog = true := by kernel_rfl

section
variable {w W : World} {b : Nat} {h l c u m : Int}
theorem one_drew (H : W.cell? ⟨b, 0, none⟩ = some (.int .i64 h) ∧ W.cell? ⟨b, 1, none⟩ = some (.int .i64 l) ∧ W.cell? ⟨b, 2, none⟩ = some (.int .i64 c) ∧ W.cell? ⟨b, 3, none⟩ = some (.int .i64 u) ∧ W.cell? ⟨b, 4, none⟩ = some (.int .i64 m) ∧ Below w.heap.size w W) : W.drew.cell? ⟨b, 0, none⟩ = some (.int .i64 h) ∧ W.drew.cell? ⟨b, 1, none⟩ = some (.int .i64 l) ∧ W.drew.cell? ⟨b, 2, none⟩ = some (.int .i64 c) ∧ W.drew.cell? ⟨b, 3, none⟩ = some (.int .i64 u) ∧ W.drew.cell? ⟨b, 4, none⟩ = some (.int .i64 m) ∧ Below w.heap.size w W.drew := one_keep H (Below.refl _ _).drew
theorem one_all (H : W.cell? ⟨b, 0, none⟩ = some (.int .i64 h) ∧ W.cell? ⟨b, 1, none⟩ = some (.int .i64 l) ∧ W.cell? ⟨b, 2, none⟩ = some (.int .i64 c) ∧ W.cell? ⟨b, 3, none⟩ = some (.int .i64 u) ∧ W.cell? ⟨b, 4, none⟩ = some (.int .i64 m) ∧ Below w.heap.size w W) : Hid (W.cell? ⟨b, 0, none⟩ = some (.int .i64 h) ∧ W.cell? ⟨b, 1, none⟩ = some (.int .i64 l) ∧ W.cell? ⟨b, 2, none⟩ = some (.int .i64 c) ∧ W.cell? ⟨b, 3, none⟩ = some (.int .i64 u) ∧ W.cell? ⟨b, 4, none⟩ = some (.int .i64 m) ∧ Below w.heap.size w W) := Lib.hid H
end
theorem ri_one {w W : World} {b : Nat} {h l c u m : Int} {a : Option Addr} {cap : Nat} {zs : List Int} (R : RI w a cap zs) (H : W.cell? ⟨b, 0, none⟩ = some (.int .i64 h) ∧ W.cell? ⟨b, 1, none⟩ = some (.int .i64 l) ∧ W.cell? ⟨b, 2, none⟩ = some (.int .i64 c) ∧ W.cell? ⟨b, 3, none⟩ = some (.int .i64 u) ∧ W.cell? ⟨b, 4, none⟩ = some (.int .i64 m) ∧ Below w.heap.size w W) : RI W a cap zs := R.below (one_below H)
theorem hm_af (c u m s : Int) (l : List Int) : hm (af c u m s l) = af c u m s l := by
  have := af_bd c u m s l
  unfold hm
  omega
theorem nx_step (c u m s : Int) (l : List Int) (k : Nat) (x v y : Int) (hv : l[k]? = some v) (hx : af c u m s (l.take k) = x) (hy : (k = 0 ∧ y = s) ∨ y = x) : nx c u m y v = af c u m s (l.take (k + 1)) := by
  rw [af_step c u m s l k v hv, hx]
  unfold nx
  rcases hy with ⟨rfl, rfl⟩ | rfl
  · rw [← hx]; rfl
  · rw [← hx, hm_af]
theorem nx_nothing (c u m s : Int) : nx c u m s 0 = hm s := by
  show hm (hm s + 0) = hm s
  rw [Int.add_zero, hm_hm]
theorem six {w W : World} {h l c u m : Int} (p : Pl W w.heap.size h l c u m) (b : Below w.heap.size w W) : W.cell? ⟨w.heap.size, 0, none⟩ = some (.int .i64 h) ∧ W.cell? ⟨w.heap.size, 1, none⟩ = some (.int .i64 l) ∧ W.cell? ⟨w.heap.size, 2, none⟩ = some (.int .i64 c) ∧ W.cell? ⟨w.heap.size, 3, none⟩ = some (.int .i64 u) ∧ W.cell? ⟨w.heap.size, 4, none⟩ = some (.int .i64 m) ∧ Below w.heap.size w W := ⟨p.1, p.2.1, p.2.2.1, p.2.2.2.1, p.2.2.2.2, b⟩

set_option maxRecDepth 100000 in
set_option maxHeartbeats 12800000 in
theorem walk (h0 l0 c0 u0 m0 : Int) (a1 : Int) (a2 : Int) (a3 : Option Addr) (cap3 : Nat) (z3 : List Int) (w : World) (w1 : (Lit.int .i64 a1).wf = true) (w2 : (Lit.int .i64 a2).wf = true) (w3 : RI w a3 cap3 z3) :
    Calls Try.prog 3 #[.agg #[.int .i64 h0, .int .i64 l0, .int .i64 c0, .int .i64 u0, .int .i64 m0], .int .i64 a1, .int .i64 a2, .slice a3 z3.length cap3] w fun e w' => e = .returned (.bool true) ∧ Below w.heap.size w w' := by
  have HR := Lib.hid w3
  have hc1 := w3.1
  have hc2 := w3.2.1
  unfold maxLen at hc2
  clear w1 w2 w3
  by_cases hbig : 200 < z3.length
  · have hbig' : (200 : Int) < (z3.length : Int) := by omega
    go_enter Try.func3, Try.ntmps3
    go_wp2_with (go_at_call 8; ((with_reducible refine (awake_any _).mono ?_); rintro e w3 ⟨rfl, hb⟩))
    go_ret
    exact ⟨rfl, bst ((Below.refl _ _).alloc (Nat.le_refl _) _) hb⟩
  have hbig' : ¬ (200 : Int) < (z3.length : Int) := by omega
  obtain ⟨x0, x1, x2, x3, x4, HC⟩ : ∃ x0 x1 x2 x3 x4, Hid (Cl h0 l0 c0 u0 m0 x0 x1 x2 x3 x4) := ⟨_, _, _, _, _, Lib.hid ⟨rfl, rfl, rfl, rfl, rfl⟩⟩
  have n1 := fun w => next_to h0 l0 c0 u0 m0 x0 x1 x2 x3 x4 a1 a2 HC.out w
  have n2 := fun w => rnext_to h0 l0 c0 u0 m0 x0 x1 x2 x3 x4 a1 a2 HC.out w
  have d1 := fun w => decide_to h0 l0 c0 u0 m0 x0 x1 x2 x3 x4 a1 HC.out w
  have d2 := fun w => rdecide_to h0 l0 c0 u0 m0 x0 x1 x2 x3 x4 a1 HC.out w
  have ca := fun w R => after_to h0 l0 c0 u0 m0 x0 x1 x2 x3 x4 a1 a3 cap3 z3 HC.out w R
  generalize nx x2 x3 x4 a1 a2 = p at n1 n2
  generalize dc x0 x1 a1 = d at d1 d2
  obtain ⟨s, es⟩ : ∃ s, af x2 x3 x4 a1 z3 = s := ⟨_, rfl⟩
  simp only [es] at ca
  have ES := Lib.hid es
  clear es
  have N1 := Lib.hid n1
  have N2 := Lib.hid n2
  have D1 := Lib.hid d1
  have D2 := Lib.hid d2
  have CA := Lib.hid ca
  clear n1 n2 d1 d2 ca
  have hB0 := Lib.hid ((Below.refl w.heap.size w).alloc (Nat.le_refl _) (.cells #[.int .i64 h0, .int .i64 l0, .int .i64 c0, .int .i64 u0, .int .i64 m0] 23))
  have HP0 := Lib.hid (Pl.new w 23 (h := h0) (l := l0) (c := c0) (u := u0) (m := m0))
  have hT : (1000000 < a1 ∧ hm a1 = 1000000) ∨ (¬ 1000000 < a1 ∧ -1000000 < a1 ∧ hm a1 = a1) ∨ (¬ 1000000 < a1 ∧ ¬ -1000000 < a1 ∧ hm a1 = -1000000) := by unfold hm; omega
  rcases hT with ⟨t1, ht⟩ | ⟨t1, t2, ht⟩ | ⟨t1, t2, ht⟩
  all_goals
    have HT := Lib.hid ht
    clear ht
    go_enter Try.func3, Try.ntmps3
    go_wp2_with (fail)
    go_loopw [9, 21] (fun s i wr => ∃ (k : Nat) (x : Int), k ≤ z3.length ∧ i = .int .i64 k ∧ s = .int .i64 x ∧ af x2 x3 x4 a1 (z3.take k) = x ∧ Pl wr w.heap.size h0 l0 c0 u0 m0 ∧ Below w.heap.size w wr) (fun _ i _ => z3.length - (intOf i).toNat)
    case atStart => exact ⟨0, _, Nat.zero_le _, rfl, rfl, HT.out, HP0.out, hB0.out⟩
    case round =>
      obtain ⟨k, x, hk, rfl, rfl, hx, hp, hb⟩ := hrel
      have HX := Lib.hid hx
      have HB := Lib.hid hb
      have HP := Lib.hid hp
      clear hx hb
      by_cases hlt : k < z3.length
      · obtain ⟨v, hv⟩ : ∃ v, z3[k]? = some v := ⟨_, List.getElem?_eq_getElem hlt⟩
        obtain ⟨b, o, rfl, cz⟩ := (HR.out.below HB.out).2.2 k v hv
        have HV := Lib.hid hv
        clear hv
        obtain ⟨p0, p1, p2, p3, p4⟩ := hp
        by_cases hk0 : k = 0
        · have hk0' : ((k : Int) == 0) = true := by simp [hk0]
          have ny := nx_step x2 x3 x4 a1 z3 k x v a1 HV.out HX.out (.inl ⟨hk0, rfl⟩)
          have HK := Lib.hid hk0
          clear hk0
          have cn := fun w => rnext_to h0 l0 c0 u0 m0 x0 x1 x2 x3 x4 a1 v HC.out w
          simp only [ny] at cn
          clear ny
          obtain ⟨y, ey⟩ : ∃ y, af x2 x3 x4 a1 (z3.take (k + 1)) = y := ⟨_, rfl⟩
          simp only [ey] at cn
          have EY := Lib.hid ey
          clear ey
          go_wp2_with (first
            | (go_at_call 9; ((with_reducible refine (cn _).mono ?_); clear cn; rintro e w3 ⟨rfl, hb3⟩)))
          go_roundw
          case rel => exact ⟨k + 1, y, hlt, by go_num, rfl, EY.out, HP.out.keep hb3, bst HB.out hb3⟩
          case measure => simp [intOf]; omega
        · have hk0' : ((k : Int) == 0) = false := by simp [hk0]
          clear hk0
          have ny := nx_step x2 x3 x4 a1 z3 k x v x HV.out HX.out (.inr rfl)
          have cn := fun w => rnext_to h0 l0 c0 u0 m0 x0 x1 x2 x3 x4 x v HC.out w
          simp only [ny] at cn
          clear ny
          obtain ⟨y, ey⟩ : ∃ y, af x2 x3 x4 a1 (z3.take (k + 1)) = y := ⟨_, rfl⟩
          simp only [ey] at cn
          have EY := Lib.hid ey
          clear ey
          go_wp2_with (first
            | (go_at_call 9; ((with_reducible refine (cn _).mono ?_); clear cn; rintro e w3 ⟨rfl, hb3⟩)))
          go_roundw
          case rel => exact ⟨k + 1, y, hlt, by go_num, rfl, EY.out, HP.out.keep hb3, bst HB.out hb3⟩
          case measure => simp [intOf]; omega
      · obtain rfl : k = z3.length := by omega
        have ex : x = s := by
          have := HX.out
          rw [List.take_length, ES.out] at this
          exact this.symm
        subst ex
        clear HX
        by_cases h0l : z3.length = 0
        · have h0l' : ((z3.length : Int) == 0) = true := by simp [h0l]
          obtain ⟨p0, p1, p2, p3, p4⟩ := hp
          have cn := fun w => rnext_to h0 l0 c0 u0 m0 x0 x1 x2 x3 x4 a1 0 HC.out w
          have ez : nx x2 x3 x4 a1 0 = x := by
            rw [nx_nothing]
            have := ES.out
            rw [List.length_eq_zero_iff.1 h0l] at this
            exact this
          simp only [ez] at cn
          clear ez h0l
          go_wp2_with (first
            | (go_at_call 9; ((with_reducible refine (cn _).mono ?_); clear cn; rintro e w3 ⟨rfl, hb3⟩; clear p0 p1 p2 p3 p4; have h6 := six (HP.out.keep hb3) (bst HB.out hb3); have n1 := N1.out; have n2 := N2.out; have d1 := D1.out; have d2 := D2.out; have ca := CA.out)))
          go_region_held3 (fun W => W.cell? ⟨w.heap.size, 0, none⟩ = some (.int .i64 h0) ∧ W.cell? ⟨w.heap.size, 1, none⟩ = some (.int .i64 l0) ∧ W.cell? ⟨w.heap.size, 2, none⟩ = some (.int .i64 c0) ∧ W.cell? ⟨w.heap.size, 3, none⟩ = some (.int .i64 u0) ∧ W.cell? ⟨w.heap.size, 4, none⟩ = some (.int .i64 m0) ∧ Below w.heap.size w W)
            (first | exact one_keep (by assumption) hb | exact one_drew (by assumption) | go_keep)
            (first
              | (go_at_call 10; ((with_reducible refine (n1 _).mono ?_); rintro e w3 ⟨rfl, hb⟩))
              | (go_at_call 9; ((with_reducible refine (n2 _).mono ?_); rintro e w3 ⟨rfl, hb⟩))
              | (go_at_call 11; ((with_reducible refine (d1 _).mono ?_); rintro e w3 ⟨rfl, hb⟩))
              | (go_at_call 12; ((with_reducible refine (d2 _).mono ?_); rintro e w3 ⟨rfl, hb⟩))
              | (go_at_call 13; ((with_reducible refine (ca _ (ri_one HR.out (by assumption))).mono ?_); rintro e w3 ⟨rfl, hb⟩))
              | (go_at_call 8; ((with_reducible refine (awake_any _).mono ?_); rintro e w3 ⟨rfl, hb⟩)))
          all_goals
            have h9 := one_below (by assumption)
            go_wp2_with (fail)
            go_ret
            exact ⟨rfl, h9⟩
        · have h0l' : ((z3.length : Int) == 0) = false := by simp [h0l]
          clear h0l
          clear hp
          have h6 := six HP.out HB.out
          have n1 := N1.out
          have n2 := N2.out
          have d1 := D1.out
          have d2 := D2.out
          have ca := CA.out
          go_wp2_with (fail)
          go_region_held3 (fun W => W.cell? ⟨w.heap.size, 0, none⟩ = some (.int .i64 h0) ∧ W.cell? ⟨w.heap.size, 1, none⟩ = some (.int .i64 l0) ∧ W.cell? ⟨w.heap.size, 2, none⟩ = some (.int .i64 c0) ∧ W.cell? ⟨w.heap.size, 3, none⟩ = some (.int .i64 u0) ∧ W.cell? ⟨w.heap.size, 4, none⟩ = some (.int .i64 m0) ∧ Below w.heap.size w W)
            (first | exact one_keep (by assumption) hb | exact one_drew (by assumption) | go_keep)
            (first
              | (go_at_call 10; ((with_reducible refine (n1 _).mono ?_); rintro e w3 ⟨rfl, hb⟩))
              | (go_at_call 9; ((with_reducible refine (n2 _).mono ?_); rintro e w3 ⟨rfl, hb⟩))
              | (go_at_call 11; ((with_reducible refine (d1 _).mono ?_); rintro e w3 ⟨rfl, hb⟩))
              | (go_at_call 12; ((with_reducible refine (d2 _).mono ?_); rintro e w3 ⟨rfl, hb⟩))
              | (go_at_call 13; ((with_reducible refine (ca _ (ri_one HR.out (by assumption))).mono ?_); rintro e w3 ⟨rfl, hb⟩))
              | (go_at_call 8; ((with_reducible refine (awake_any _).mono ?_); rintro e w3 ⟨rfl, hb⟩)))
          all_goals
            have h9 := one_below (by assumption)
            go_wp2_with (fail)
            go_ret
            exact ⟨rfl, h9⟩

set_option maxRecDepth 100000 in
theorem lifted (os : Os) (started : os.Started) (H : Type) (enc : TypeId × Value → H) :
    ReturnsInHanded {} Try.checked os 3 .any (Rows.statFormsSpec.pre6 enc Try.prog Try.f3 Rows.statFormsRow.domain false) (Rows.statFormsSpec.post enc Try.prog Try.f3 false true false false) := by
  refine returnsInHanded_of_change (C := Try.checked) own started (by kernel_rfl) Try.func3
    (ChangeSpec.witness6 (enc := enc) (C := Try.checked) false ⟨#[], #[.agg #[.int .i64 0, .int .i64 0, .int .i64 0, .int .i64 0, .int .i64 0], .int .i64 0, .int .i64 0, .slice none 0 0], []⟩ 8 (by kernel_rfl) (by kernel_rfl) (by kernel_rfl) (by kernel_rfl)) ?_
  intro W base args ds gs before hval0 hW hcnd _
  have hval : ∀ (j : Nat) t v, Try.f3.params[j]? = some t → args[j]? = some v → Value.okWide Try.prog W .any base t v := hval0
  have hW' := hW
  obtain ⟨p, q, hA0, hV, rfl, hfz, hnd⟩ := hW
  have hA : DataW.TrodAll enc Try.prog W 0 (fun _ => true) true Try.f3.params.toList args.toList ds p := hA0
  rw [Try.params3] at hA hval
  obtain ⟨v0, vs0, d0, ds0, p0, q0, hargs, rfl, rfl, h0, r0⟩ := trodAll_cons hA
  obtain ⟨v1, vs1, d1, ds1, p1, q1, rfl, rfl, rfl, h1, r1⟩ := trodAll_cons r0
  obtain ⟨v2, vs2, d2, ds2, p2, q2, rfl, rfl, rfl, h2, r2⟩ := trodAll_cons r1
  obtain ⟨v3, vs3, d3, ds3, p3, q3, rfl, rfl, rfl, h3, r3⟩ := trodAll_cons r2
  obtain ⟨rfl, rfl, rfl⟩ := trodAll_nil r3
  obtain rfl : args = #[v0, v1, v2, v3] := by cases args; simp_all
  obtain ⟨rfl, rfl⟩ := trodVars_none hV
  have k0 := h0
  have lt0 : ∀ x ∈ p0, x.block < W.heap.size := by obtain ⟨m, hm⟩ := k0; exact DataW.trod_lt m _ _ _ hm
  obtain ⟨u0, rfl, _⟩ := okWide_struct Try.underlying23 (hval 0 23 v0 rfl rfl)
  obtain ⟨h0_, l0_, c0_, u0_, m0_, e0⟩ := fields_pol (enc := enc) (w := W) (cs := u0.toList) (fuel := h0.choose) (by simpa [Value.cells] using h0.choose_spec)
  obtain rfl : u0 = #[.int .i64 h0_, .int .i64 l0_, .int .i64 c0_, .int .i64 u0_, .int .i64 m0_] := by cases u0; simp_all
  have k1 := h1
  have lt1 : ∀ x ∈ p1, x.block < W.heap.size := by obtain ⟨m, hm⟩ := k1; exact DataW.trod_lt m _ _ _ hm
  obtain ⟨a1, rfl, rfl, rfl, w1⟩ := open_int Try.underlying3 (hval 1 3 v1 rfl rfl) h1
  have k2 := h2
  have lt2 : ∀ x ∈ p2, x.block < W.heap.size := by obtain ⟨m, hm⟩ := k2; exact DataW.trod_lt m _ _ _ hm
  obtain ⟨a2, rfl, rfl, rfl, w2⟩ := open_int Try.underlying3 (hval 2 3 v2 rfl rfl) h2
  have k3 := h3
  have lt3 : ∀ x ∈ p3, x.block < W.heap.size := by obtain ⟨m, hm⟩ := k3; exact DataW.trod_lt m _ _ _ hm
  obtain ⟨b3, l3, c3, rfl⟩ := okWide_slice Try.underlying24 (hval 3 24 v3 rfl rfl)
  obtain ⟨a3, cap3, z3, e3, w3⟩ := open_ri (enc := enc) (w := W) (v := .slice b3 l3 c3) (fuel := h3.choose) (by simpa [Value.cells] using h3.choose_spec)
  rw [e3] at hval k3 h3 hW' hval0 hA0
  clear hA0 hval0
  rw [e3]; refine (walk h0_ l0_ c0_ u0_ m0_ a1 a2 a3 cap3 z3 W w1 w2 w3).mono fun e W' ⟨he, bel⟩ => ?_
  subst he
  exact ⟨_, rfl, _, _, _, [], _, [], hW', trodAll_mk1 (shut_bool Try.underlying4 _), (trodAll_cons_mk (Below.trod laidOut (by kernel_rfl) (of_decide_eq_true (by kernel_rfl)) k0 bel lt0) (trodAll_cons_mk (Below.trod laidOut (by kernel_rfl) (of_decide_eq_true (by kernel_rfl)) k1 bel lt1) (trodAll_cons_mk (Below.trod laidOut (by kernel_rfl) (of_decide_eq_true (by kernel_rfl)) k2 bel lt2) (trodAll_cons_mk (Below.trod laidOut (by kernel_rfl) (of_decide_eq_true (by kernel_rfl)) k3 bel lt3) trodAll_mk0)))), rfl, bel.frame _, fun h => by cases h⟩

theorem over : Rows.statFormsRow.holds Try.pinned (OpenSpec.ofChange Rows.statFormsSpec) :=
  OpenClaim.holds_of_wide 3 Try.f3 rfl rfl rfl rfl rfl rfl rfl ⟨rfl, rfl, rfl, rfl, rfl⟩ rfl rfl rfl rfl rfl (by kernel_rfl) Try.func3 (by kernel_rfl)
    (of_decide_eq_true (by kernel_rfl)) (by unfold Func.isWrapper; first | (rw [if_pos (by decide +kernel)]; kernel_rfl) | (rw [if_neg (by decide +kernel)]; exact ⟨rfl, rfl⟩))
    (fun os started H enc _ => lifted os started H enc)

theorem statFormsHolds : Rows.StatFormsSaid := over
#print axioms statFormsHolds
end Go.Proofs.Ytppahbgoecldmaa.statForms
