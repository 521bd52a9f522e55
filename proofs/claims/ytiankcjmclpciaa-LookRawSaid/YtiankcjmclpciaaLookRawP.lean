/- 'osierlaw4.LookRaw' returns true for every slice of slices of integers and every three integers. No condition. -/
import Derived.Test.YtiankcjmclpciaaRows
import Derived.Test.YtiankcjmclpciaaLkAwk
import Derived.Test.YtiankcjmclpciaaNRows
import Derived.LoopTactic
import Derived.WalkKit
import Derived.ProofKit
import Derived.OpenShut
import Derived.ChangeOld
import Derived.Below
namespace Go.Proofs.Ytiankcjmclpciaa.lookRaw
open Go.ChangeShapes Go.WideShapes Go.ChangeAt Go.RowKit
set_option linter.all false

theorem own : ownKnob Try.prog.godebug = none := by kernel_rfl
theorem laidOut : laidOutB Try.prog = true := by kernel_rfl

theorem kind_past {L : List It} {n : Nat} (h : L.length = n) : kindL L ((n : Int) + 1) ≠ 1 := by
  intro hk
  have := kind_one_range hk
  omega
theorem nth_past {L : List It} {n : Nat} (h : L.length = n) : nthL L ((n : Int) + 1) 0 = none := by
  unfold nthL
  rw [if_pos (.inr (by rw [nv_no (kind_past h)]; exact Int.le_refl _))]

set_option maxRecDepth 100000 in
set_option maxHeartbeats 12800000 in
theorem walk (a0 : Option Addr) (len0 cap0 : Nat) (z0 : List IRow) (a1 : Int) (a2 : Int) (a3 : Int) (w : World) (w0 : IRows w a0 len0 cap0 z0) (w1 : (Lit.int .i64 a1).wf = true) (w2 : (Lit.int .i64 a2).wf = true) (w3 : (Lit.int .i64 a3).wf = true) :
    Calls Try.prog 4 #[.slice a0 len0 cap0, .int .i64 a1, .int .i64 a2, .int .i64 a3] w fun e w' => e = .returned (.bool true) ∧ Below w.heap.size w w' := by
  have hc0 := w0.1
  have hc1 := w0.2.1
  have hc2 := w0.2.2.1
  have W0 := Lib.hid w0
  have HC0 := Lib.hid hc0
  clear w0 hc0
  unfold maxLen at hc2
  by_cases h40 : 40 < len0
  · have h40' : (40 : Int) < (len0 : Int) := by omega
    go_enter Try.func4, Try.ntmps4
    go_wp2_with (go_at_call 21; ((with_reducible refine (lawake_any _).mono ?_); rintro e W9 ⟨rfl, hb9⟩))
    go_ret
    exact ⟨rfl, hb9⟩
  · have h40' : ¬ (40 : Int) < (len0 : Int) := by omega
    go_enter Try.func4, Try.ntmps4
    go_wp2_with (go_at_call 10; ((with_reducible refine (new_held 50 50 w w (Below.refl _ _) (by decide)).mono ?_); rintro e W3 ⟨p, rfl, h1⟩))
    go_loopw [27] (fun i wr => ∃ (n : Nat) (L : List It), n ≤ len0 ∧ i = .int .i64 n ∧ L.length = n ∧ Held w wr p 50 0 L) (fun i _ => len0 - (intOf i).toNat)
    case atStart => exact ⟨0, [], Nat.zero_le _, rfl, rfl, h1⟩
    case round =>
      clear h1
      obtain ⟨n, L, hn, rfl, hL, hH⟩ := hrel
      have HL := Lib.hid hL
      by_cases hlt : n < len0
      · obtain ⟨r, hr⟩ : ∃ r, z0[n]? = some r := ⟨_, List.getElem?_eq_getElem (by rw [HC0.out]; exact hlt)⟩
        obtain ⟨b, o, rfl, c0, hv, hw⟩ := W0.out.2.2.2 n r hr
        obtain ⟨ra, rc, rv⟩ := r
        dsimp only at c0 hv hw
        replace c0 := hH.old c0
        have hv1 := hv.1
        have HV := Lib.hid hv
        have HH := Lib.hid hH
        clear hr hv hw hH hL
        unfold maxLen at hv1
        by_cases h12 : 12 < rv.length
        · have h12' : (12 : Int) < (rv.length : Int) := by omega
          go_wp2_with (go_at_call 21; ((with_reducible refine (lawake_any _).mono ?_); rintro e W9 ⟨rfl, hb9⟩))
          go_ret
          exact ⟨rfl, HH.out.b.trans (hb9.mono HH.out.b.size)⟩
        · have h12' : ¬ (12 : Int) < (rv.length : Int) := by omega
          go_wp2_with (go_at_call 22; have cc := make_held HH.out 1 rv _ ((L.length : Int) + 1) (L ++ [(1, rv)]) (by decide) (by omega) (HV.out.ints HH.out.b (fun b hb => by omega)) (by rw [HL.out]; omega) rfl rfl; ((with_reducible refine cc.mono ?_); clear cc; rintro e W5 ⟨rfl, h5⟩))
          go_roundw
          case rel => exact ⟨n + 1, _, by omega, by go_num, by rw [List.length_append, HL.out]; rfl, h5⟩
          case measure => simp [intOf]; omega
      · obtain rfl : n = len0 := by omega
        have hno := kind_past hL
        have hnp := nth_past hL
        have HH := Lib.hid hH
        have HN := Lib.hid hnp
        have HK := Lib.hid hno
        clear hH hnp hno hL
        have hw1 : wrap64 ((n : Int) + 1) = (n : Int) + 1 := by unfold wrap64; omega
        obtain ⟨g, gi, hg, hgi⟩ : ∃ g gi, (getL L a1 a2).getD 0 = g ∧ (getL L a1 a2).isSome = gi := ⟨_, _, rfl, rfl⟩
        obtain ⟨⟨m0, m1⟩, mi, hm, hmi⟩ : ∃ (m : Pr) (mi : Bool), (farL L 2 a1).getD (0, 0) = m ∧ (farL L 2 a1).isSome = mi := ⟨_, _, rfl, rfl⟩
        obtain ⟨⟨x0, x1⟩, xi, hx, hxi⟩ : ∃ (m : Pr) (mi : Bool), (farL L 3 a1).getD (0, 0) = m ∧ (farL L 3 a1).isSome = mi := ⟨_, _, rfl, rfl⟩
        obtain ⟨⟨y0, y1⟩, yi, hy, hyi⟩ : ∃ (m : Pr) (mi : Bool), (nthL L a1 a3).getD (0, 0) = m ∧ (nthL L a1 a3).isSome = mi := ⟨_, _, rfl, rfl⟩
        obtain ⟨bb, hbb⟩ : ∃ m, belowG L a1 a2 0 = m := ⟨_, rfl⟩
        have h0 : kindL L 0 ≠ 1 := by rw [kindL_zero L 0 (by omega)]; decide
        have c1 := fun W hA => lget_any a1 a2 W (Gets.ofArena (w := W) (F := fun k => w.heap.size ≤ k) (p := p) (room := 50) (st := 0) hA) g gi hg hgi
        have c2 := fun W hA => lmin_any a1 W (Gets.ofArena (w := W) (F := fun k => w.heap.size ≤ k) (p := p) (room := 50) (st := 0) hA) m0 m1 mi hm hmi
        have c3 := fun W hA => lmax_any a1 W (Gets.ofArena (w := W) (F := fun k => w.heap.size ≤ k) (p := p) (room := 50) (st := 0) hA) x0 x1 xi hx hxi
        have c4 := fun W hA => lnth_any a1 a3 W (Gets.ofArena (w := W) (F := fun k => w.heap.size ≤ k) (p := p) (room := 50) (st := 0) hA) y0 y1 yi hy hyi
        have c5 := fun W hA => lbelow_any a1 a2 W (Gets.ofArena (w := W) (F := fun k => w.heap.size ≤ k) (p := p) (room := 50) (st := 0) hA) bb hbb
        have k0 : ∀ id, kindL [] id ≠ 1 := fun id hk => by have := kind_one_range hk; simp at this; omega
        have c6 := fun W => lget_any (ao := none) (L := []) a1 a2 W (Gets.nil W) 0 false (by rw [getL_no (k0 _)]; rfl) (by rw [getL_no (k0 _)]; rfl)
        have c7 := fun W hA => lmin_any 0 W (Gets.ofArena (w := W) (L := L) (F := fun k => w.heap.size ≤ k) (p := p) (room := 50) (st := 0) hA) 0 0 false (by rw [farL_no h0]; rfl) (by rw [farL_no h0]; rfl)
        have c8 := fun W => lmax_any (ao := none) (L := []) a1 W (Gets.nil W) 0 0 false (by rw [farL_no (k0 _)]; rfl) (by rw [farL_no (k0 _)]; rfl)
        have c9 := fun W hA => lnth_any ((n : Int) + 1) 0 W (Gets.ofArena (w := W) (L := L) (F := fun k => w.heap.size ≤ k) (p := p) (room := 50) (st := 0) hA) 0 0 false (by rw [HN.out]; rfl) (by rw [HN.out]; rfl)
        have c10 := fun W => size_any (ao := none) (L := []) a1 0 W (Gets.nil W) (nv_no (k0 _) 4)
        have c11 := fun W hA => lhigh_any 0 0 W (Gets.ofArena (w := W) (L := L) (F := fun k => w.heap.size ≤ k) (p := p) (room := 50) (st := 0) hA) (nv_no h0 5)
        have c12 := fun W => lbelow_any (ao := none) (L := []) a1 a2 W (Gets.nil W) 0 (belowG_no (k0 _))
        clear hg hgi hm hmi hx hxi hy hyi hbb h0 k0
        go_wp2_with (fail)
        refine (c1 _ HH.out.a).mono ?_
        rintro e W1 ⟨rfl, b1⟩
        have h1 := HH.out.below b1
        clear b1 c1
        go_wp2_with (fail)
        refine (c2 _ h1.a).mono ?_
        rintro e W2 ⟨rfl, b2⟩
        have h2 := h1.below b2
        clear b2 c2
        go_wp2_with (fail)
        refine (c3 _ h2.a).mono ?_
        rintro e W3 ⟨rfl, b3⟩
        have h3 := h2.below b3
        clear b3 c3
        go_wp2_with (fail)
        refine (c4 _ h3.a).mono ?_
        rintro e W4 ⟨rfl, b4⟩
        have h4 := h3.below b4
        clear b4 c4
        go_wp2_with (fail)
        refine (c5 _ h4.a).mono ?_
        rintro e W5 ⟨rfl, b5⟩
        have h5 := h4.below b5
        clear b5 c5
        go_wp2_with (fail)
        refine (c6 _).mono ?_
        rintro e W6 ⟨rfl, b6⟩
        have h6 := h5.below b6
        clear b6 c6
        go_wp2_with (fail)
        refine (c7 _ h6.a).mono ?_
        rintro e W7 ⟨rfl, b7⟩
        have h7 := (h6.below b7).alloc (.cells #[.int .i64 0, .int .i64 0] 31)
        clear b7 c7
        go_wp2_with (fail)
        refine (c8 _).mono ?_
        rintro e W8 ⟨rfl, b8⟩
        have h8 := (h7.below b8).alloc (.cells #[.int .i64 0, .int .i64 0] 31)
        clear b8 c8
        go_wp2_with (fail)
        refine (c9 _ h8.a).mono ?_
        rintro e W9 ⟨rfl, b9⟩
        have h9 := (h8.below b9).alloc (.cells #[.int .i64 0, .int .i64 0] 31)
        clear b9 c9
        go_wp2_with (first
          | (go_at_call 14; ((with_reducible refine (c10 _).mono ?_); clear c10; rintro e W10 ⟨rfl, b10⟩; have h10 := h9.below b10; clear b10))
          | (go_at_call 15; ((with_reducible refine (c11 _ h10.a).mono ?_); clear c11; rintro e W11 ⟨rfl, b11⟩; have h11 := h10.below b11; clear b11))
          | (go_at_call 20; ((with_reducible refine (c12 _).mono ?_); clear c12; rintro e W12 ⟨rfl, b12⟩; have h12 := h11.below b12; clear b12))
          | (go_at_call 23; have cc := used_held h12 n (by rw [HL.out]); ((with_reducible refine cc.mono ?_); clear cc; rintro e W13 ⟨rfl, rfl⟩))
          | (go_at_call 24; have cc := steps_held h12; ((with_reducible refine cc.mono ?_); clear cc; rintro e W14 ⟨rfl, rfl⟩))
          | (go_at_call 21; ((with_reducible refine (lawake_any _).mono ?_); rintro e W15 ⟨rfl, b15⟩; have h15 := h12.below b15; clear b15)))
        go_ret
        exact ⟨rfl, h15.b⟩

set_option maxRecDepth 100000 in
theorem lifted (os : Os) (started : os.Started) (H : Type) (enc : TypeId × Value → H) :
    ReturnsInHanded {} Try.checked os 4 .any (Rows.lookRawSpec.pre6 enc Try.prog Try.f4 Rows.lookRawRow.domain false) (Rows.lookRawSpec.post enc Try.prog Try.f4 false true false false) := by
  refine returnsInHanded_of_change (C := Try.checked) own started (by kernel_rfl) Try.func4
    (ChangeSpec.witness6 (enc := enc) (C := Try.checked) false ⟨#[], #[.slice none 0 0, .int .i64 0, .int .i64 0, .int .i64 0], []⟩ 8 (by kernel_rfl) (by kernel_rfl) (by kernel_rfl) (by kernel_rfl)) ?_
  intro W base args ds gs before hval0 hW hcnd _
  have hval : ∀ (j : Nat) t v, Try.f4.params[j]? = some t → args[j]? = some v → Value.okWide Try.prog W .any base t v := hval0
  have hW' := hW
  obtain ⟨p, q, hA0, hV, rfl, hfz, hnd⟩ := hW
  have hA : DataW.TrodAll enc Try.prog W 0 (fun _ => true) true Try.f4.params.toList args.toList ds p := hA0
  rw [Try.params4] at hA hval
  obtain ⟨v0, vs0, d0, ds0, p0, q0, hargs, rfl, rfl, h0, r0⟩ := trodAll_cons hA
  obtain ⟨v1, vs1, d1, ds1, p1, q1, rfl, rfl, rfl, h1, r1⟩ := trodAll_cons r0
  obtain ⟨v2, vs2, d2, ds2, p2, q2, rfl, rfl, rfl, h2, r2⟩ := trodAll_cons r1
  obtain ⟨v3, vs3, d3, ds3, p3, q3, rfl, rfl, rfl, h3, r3⟩ := trodAll_cons r2
  obtain ⟨rfl, rfl, rfl⟩ := trodAll_nil r3
  obtain rfl : args = #[v0, v1, v2, v3] := by cases args; simp_all
  obtain ⟨rfl, rfl⟩ := trodVars_none hV
  have k0 := h0
  have lt0 : ∀ x ∈ p0, x.block < W.heap.size := by obtain ⟨m, hm⟩ := k0; exact DataW.trod_lt m _ _ _ hm
  obtain ⟨b0, l0, c0, rfl⟩ := okWide_slice Try.underlying40 (hval 0 40 v0 rfl rfl)
  obtain ⟨a0, len0, cap0, z0, e0, w0⟩ := open_rows (enc := enc) (w := W) (v := .slice b0 l0 c0) (fuel := h0.choose) (by simpa [Value.cells] using h0.choose_spec)
  rw [e0] at hval k0 h0 hW' hval0 hA0
  have k1 := h1
  have lt1 : ∀ x ∈ p1, x.block < W.heap.size := by obtain ⟨m, hm⟩ := k1; exact DataW.trod_lt m _ _ _ hm
  obtain ⟨a1, rfl, rfl, rfl, w1⟩ := open_int Try.underlying3 (hval 1 3 v1 rfl rfl) h1
  have k2 := h2
  have lt2 : ∀ x ∈ p2, x.block < W.heap.size := by obtain ⟨m, hm⟩ := k2; exact DataW.trod_lt m _ _ _ hm
  obtain ⟨a2, rfl, rfl, rfl, w2⟩ := open_int Try.underlying3 (hval 2 3 v2 rfl rfl) h2
  have k3 := h3
  have lt3 : ∀ x ∈ p3, x.block < W.heap.size := by obtain ⟨m, hm⟩ := k3; exact DataW.trod_lt m _ _ _ hm
  obtain ⟨a3, rfl, rfl, rfl, w3⟩ := open_int Try.underlying3 (hval 3 3 v3 rfl rfl) h3
  clear hA0 hval0
  rw [e0]; refine (walk a0 len0 cap0 z0 a1 a2 a3 W w0 w1 w2 w3).mono fun e W' ⟨he, bel⟩ => ?_
  subst he
  exact ⟨_, rfl, _, _, _, [], _, [], hW', trodAll_mk1 (shut_bool Try.underlying4 _), (trodAll_cons_mk (Below.trod laidOut (by kernel_rfl) (of_decide_eq_true (by kernel_rfl)) k0 bel lt0) (trodAll_cons_mk (Below.trod laidOut (by kernel_rfl) (of_decide_eq_true (by kernel_rfl)) k1 bel lt1) (trodAll_cons_mk (Below.trod laidOut (by kernel_rfl) (of_decide_eq_true (by kernel_rfl)) k2 bel lt2) (trodAll_cons_mk (Below.trod laidOut (by kernel_rfl) (of_decide_eq_true (by kernel_rfl)) k3 bel lt3) trodAll_mk0)))), rfl, bel.frame _, fun h => by cases h⟩

theorem over : Rows.lookRawRow.holds Try.pinned (OpenSpec.ofChange Rows.lookRawSpec) :=
  OpenClaim.holds_of_wide 4 Try.f4 rfl rfl rfl rfl rfl rfl rfl ⟨rfl, rfl, rfl, rfl, rfl⟩ rfl rfl rfl rfl rfl (by kernel_rfl) Try.func4 (by kernel_rfl)
    (of_decide_eq_true (by kernel_rfl)) (by unfold Func.isWrapper; first | (rw [if_pos (by decide +kernel)]; kernel_rfl) | (rw [if_neg (by decide +kernel)]; exact ⟨rfl, rfl⟩))
    (fun os started H enc _ => lifted os started H enc)

theorem lookRawHolds : Rows.LookRawSaid := over
#print axioms lookRawHolds
end Go.Proofs.Ytiankcjmclpciaa.lookRaw
