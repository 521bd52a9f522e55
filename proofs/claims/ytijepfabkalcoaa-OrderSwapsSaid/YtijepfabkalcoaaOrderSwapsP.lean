/- Two calls side by side in a right order, of which both only read, may stand the other way round just if neither is over ahead of the other. No condition. -/
import Derived.Test.YtijepfabkalcoaaRows
import Derived.Test.YtijepfabkalcoaaOrJ
import Derived.LoopTactic
import Derived.WalkKit
import Derived.ProofKit
import Derived.OpenShut
import Derived.ChangeOld
import Derived.Below
namespace Go.Proofs.Ytijepfabkalcoaa.orderSwaps
open Go.ChangeShapes Go.WideShapes Go.ChangeAt Go.RowKit
set_option linter.all false

theorem own : ownKnob Try.prog.godebug = none := by kernel_rfl
theorem laidOut : laidOutB Try.prog = true := by kernel_rfl



set_option maxRecDepth 100000 in
set_option maxHeartbeats 51200000 in
theorem walk (a0 : Option Addr) (cap0 : Nat) (z0 : List Pr) (a1 : Option Addr) (cap1 : Nat) (z1 : List EvD) (a2 : Option Addr) (cap2 : Nat) (z2 : List Int) (a3 : Int) (w : World) (w0 : Prs w a0 cap0 z0) (w1 : Es w a1 cap1 z1) (s1 : MidE z1) (w2 : RI w a2 cap2 z2) (w3 : (Lit.int .i64 a3).wf = true) :
    Calls Try.prog 7 #[.slice a0 z0.length cap0, .slice a1 z1.length cap1, .slice a2 z2.length cap2, .int .i64 a3] w fun e w' => e = .returned (.bool true) ∧ Below w.heap.size w w' := by
  have hlg := light_anyE a1 cap1 z1 w w1 s1
  have ca := fun W (hb : Below w.heap.size w W) => owake_any W
  have hz1 := w0.1
  have hz2 := w0.2.1
  have hz3 := w1.1
  have hz4 := w1.2.1
  have hz5 := w2.1
  have hz6 := w2.2.1
  unfold maxLen at hz2 hz4 hz6
  by_cases hL : LgtE z1
  rotate_left
  · have cl := hlg 1 (fun h => absurd h hL) (fun _ => rfl)
    clear hlg hL
    go_enter Try.func7, Try.ntmps7
    go_wp2_with (first
      | (go_at_call 20; ((with_reducible refine cl.mono ?_); clear cl; rintro e v1 ⟨rfl, hb1⟩; have HB1 := Lib.hid hb1; clear hb1))
      | (go_at_call 26; ((with_reducible refine (ca _ HB1.out).mono ?_); clear ca; rintro e wa ⟨rfl, hba⟩; have HBa := Lib.hid (pb2 HB1.out hba); clear hba))
      | fail)
    go_ret
    exact ⟨by simp, HBa.out⟩
  have cl := hlg 0 (fun _ => rfl) (fun h => absurd hL h)
  have hN3 : z1.length ≤ 200 := hL.1
  have hps : ∀ e ∈ z1, e.a.ps.length ≤ 1100000 := fun e he => Nat.le_trans (hL.ps e he) (by decide)
  clear hlg hL
  by_cases hA1 : z0.length ≤ 100
  rotate_left
  · have h3 : (100 : Int) < (z0.length : Int) := by omega
    clear hA1
    go_enter Try.func7, Try.ntmps7
    go_wp2_with (first
      | (go_at_call 20; ((with_reducible refine cl.mono ?_); clear cl; rintro e v1 ⟨rfl, hb1⟩; have HB1 := Lib.hid hb1; clear hb1))
      | (go_at_call 26; ((with_reducible refine (ca _ HB1.out).mono ?_); clear ca; rintro e wa ⟨rfl, hba⟩; have HBa := Lib.hid (pb2 HB1.out hba); clear hba))
      | fail)
    go_ret
    exact ⟨by simp, HBa.out⟩
  have h3 : ¬ (100 : Int) < (z0.length : Int) := by omega
  by_cases hA3 : 2 ≤ z2.length
  rotate_left
  · have h5 : (z2.length : Int) < 2 := by omega
    clear hA3
    go_enter Try.func7, Try.ntmps7
    go_wp2_with (first
      | (go_at_call 20; ((with_reducible refine cl.mono ?_); clear cl; rintro e v1 ⟨rfl, hb1⟩; have HB1 := Lib.hid hb1; clear hb1))
      | (go_at_call 26; ((with_reducible refine (ca _ HB1.out).mono ?_); clear ca; rintro e wa ⟨rfl, hba⟩; have HBa := Lib.hid (pb2 HB1.out hba); clear hba))
      | fail)
    go_ret
    exact ⟨by simp, HBa.out⟩
  have h5 : ¬ (z2.length : Int) < 2 := by omega
  by_cases hA2 : z2.length ≤ 200
  rotate_left
  · have h4 : (200 : Int) < (z2.length : Int) := by omega
    clear hA2
    go_enter Try.func7, Try.ntmps7
    go_wp2_with (first
      | (go_at_call 20; ((with_reducible refine cl.mono ?_); clear cl; rintro e v1 ⟨rfl, hb1⟩; have HB1 := Lib.hid hb1; clear hb1))
      | (go_at_call 26; ((with_reducible refine (ca _ HB1.out).mono ?_); clear ca; rintro e wa ⟨rfl, hba⟩; have HBa := Lib.hid (pb2 HB1.out hba); clear hba))
      | fail)
    go_ret
    exact ⟨by simp, HBa.out⟩
  have h4 : ¬ (200 : Int) < (z2.length : Int) := by omega
  have cR0 := fun a' c' l' W (hb : Below w.heap.size w W) h1 h2 B hB => oright_any a0 a1 a' cap0 cap1 c' z0 z1 l' W (w0.below hb) (w1.keep hb) h1 (by omega) (by omega) hps h2 B hB
  by_cases hord : ordR z0 z1 z2
  rotate_left
  · have cR := fun W hb => cR0 a2 cap2 z2 W hb (w2.below hb) (by omega) false (by simp [hord])
    clear cR0
    go_enter Try.func7, Try.ntmps7
    go_wp2_with (first
      | (go_at_call 20; ((with_reducible refine cl.mono ?_); clear cl; rintro e v1 ⟨rfl, hb1⟩; have HB1 := Lib.hid hb1; clear hb1))
      | (go_at_call 29; ((with_reducible refine (cR _ HB1.out).mono ?_); clear cR; rintro e v2 ⟨rfl, hb2⟩; have HB2 := Lib.hid (pb2 HB1.out hb2); clear hb2))
      | (go_at_call 26; ((with_reducible refine (ca _ HB2.out).mono ?_); clear ca; rintro e wa ⟨rfl, hba⟩; have HBa := Lib.hid (pb2 HB2.out hba); clear hba))
      | fail)
    go_ret
    exact ⟨by simp, HBa.out⟩
  have cR := fun W hb => cR0 a2 cap2 z2 W hb (w2.below hb) (by omega) true (by simp [hord])
  obtain ⟨hs, s, hm, -⟩ := id hord
  have hrg := (ordR_is hs hm).1 hord
  have hoi := fun l' => ordR_is (N := z1) (l := l') hs hm
  have I := minv z1 _ s hm
  have hLN : s.l.length ≤ 200 := by have h1 := I.nb; have h2 := (cnt_le z1 z1.length).1; omega
  have cC := fun W (hb : Below w.heap.size w W) => calls_any a1 cap1 z1 W (w1.keep hb) (by omega) hps s.l (by unfold callsL; rw [hm])
  obtain ⟨L, hLL⟩ : ∃ L, s.l = L := ⟨_, rfl⟩
  rw [hLL] at hrg hoi hLN cC
  obtain ⟨k, hk, hum⟩ := umodR a3 ((z2.length : Int) - 1) (by omega) (by omega)
  have hkl : k + 1 < z2.length := by omega
  obtain ⟨x, hx⟩ : ∃ x, z2[k]? = some x := ⟨_, List.getElem?_eq_getElem (by omega)⟩
  obtain ⟨y, hy⟩ : ∃ y, z2[k + 1]? = some y := ⟨_, List.getElem?_eq_getElem hkl⟩
  have hir := hrg.nm.inr x (List.mem_of_getElem? hx)
  have hir2 := hrg.nm.inr y (List.mem_of_getElem? hy)
  have hxg : z2.getD k 0 = x := by rw [List.getD_eq_getElem?_getD, hx]; rfl
  have hyg : z2.getD (k + 1) 0 = y := by rw [List.getD_eq_getElem?_getD, hy]; rfl
  obtain ⟨j, rfl⟩ : ∃ j : Nat, x = (j : Int) := ⟨x.toNat, by have := hir.1; omega⟩
  obtain ⟨i, rfl⟩ : ∃ i : Nat, y = (i : Int) := ⟨y.toNat, by have := hir2.1; omega⟩
  obtain ⟨bi, oi, rfl, -⟩ := ri_at w2 hx
  have hj0 : (0 : Int) ≤ (j : Int) := Int.natCast_nonneg j
  have hjl : (j : Int) < (L.length : Int) := hir.2
  have hjn : ¬ L.length ≤ j := by omega
  have hi0 : (0 : Int) ≤ (i : Int) := Int.natCast_nonneg i
  have hil : (i : Int) < (L.length : Int) := hir2.2
  have hin : ¬ L.length ≤ i := by omega
  have hcm := cAt_mem hir
  have hdm := cAt_mem hir2
  rw [Int.toNat_natCast] at hcm hdm
  have hdk : (dn L z2).getD k zCl = cAt L (j : Int) := by rw [dn_at (by omega), hxg]
  have hdk2 : (dn L z2).getD (k + 1) zCl = cAt L (i : Int) := by rw [dn_at hkl, hyg]
  have hsw := fun h1 h2 => rgt_swi (m := z0) hkl h1 h2 hrg
  rw [hdk, hdk2] at hsw
  have hse : (z2.set k (i : Int)).set (k + 1) (j : Int) = swi z2 k := by unfold swi; rw [hxg, hyg]
  obtain ⟨c, hc⟩ : ∃ c, cAt L (j : Int) = c := ⟨_, rfl⟩
  obtain ⟨d, hd⟩ : ∃ d, cAt L (i : Int) = d := ⟨_, rfl⟩
  rw [hc] at hcm hsw
  rw [hd] at hdm hsw
  have HSW := Lib.hid hsw
  have HSE := Lib.hid hse
  have HOI := Lib.hid hoi
  have HCR := Lib.hid cR0
  have HW2 := Lib.hid w2
  have HX := Lib.hid hx
  have HY := Lib.hid hy
  have HCM := Lib.hid hcm
  have HDM := Lib.hid hdm
  have HRS := Lib.hid (show ∀ W, Below w.heap.size w W → Source W (.slice (some ⟨bi, oi, none⟩) z2.length cap2) z2.length (cellsI z2) from fun W hb => src_ri (HW2.out.below hb) (fun e => by cases e))
  have HL1 := Lib.hid (show ([] : List Int).length + z2.length ≤ 100000000000 by simp; omega)
  have HL2 := Lib.hid (show ([] : List Int).length + z2.length = z2.length by simp)
  have hk0 : (0 : Int) ≤ (k : Int) := Int.natCast_nonneg k
  have hkI : (k : Int) < (z2.length : Int) := by omega
  have hk1 : (0 : Int) ≤ (k : Int) + 1 := by omega
  have hk2 : (k : Int) + 1 < (z2.length : Int) := by omega
  have htn : ((k : Int) + 1).toNat = k + 1 := by omega
  clear cR0 hord hs hm hrg hoi I hps w0 w1 w2 s1 w3 hx hy hir hir2 hxg hyg hcm hdm hdk hdk2 hsw hse hc hd hLL hk
  go_enter Try.func7, Try.ntmps7
  go_wp2_with (first
    | (go_at_call 20; ((with_reducible refine cl.mono ?_); clear cl; rintro e v1 ⟨rfl, hb1⟩; have HB1 := Lib.hid hb1; clear hb1))
    | (go_at_call 29; ((with_reducible refine (cR _ HB1.out).mono ?_); clear cR; rintro e v2 ⟨rfl, hb2⟩; have HB2 := Lib.hid (pb2 HB1.out hb2); clear hb2))
    | fail)
  rw [hum]
  clear hum HB1
  go_wp2_with (first
    | (go_at_call 24; ((with_reducible refine (cC _ HB2.out).mono ?_); clear cC; rintro e v4 ⟨ao4, cp4, rfl, hC4, hb4⟩; have HC4 := Lib.hid hC4; have HB4 := Lib.hid (pb2 HB2.out hb4); clear hb4 hC4; obtain ⟨b', o', e', xx⟩ := ri_at (HW2.out.below HB4.out) HX.out; cases e'; obtain ⟨b', o', e', yy⟩ := ri_at (HW2.out.below HB4.out) HY.out; cases e'))
    | fail)
  clear HB2
  obtain ⟨bd, oo, pa, pc, rfl, hca⟩ := HC4.out.2.2 j _ HCM.out
  obtain ⟨bd', oo', pa', pc', e', hda⟩ := HC4.out.2.2 i _ HDM.out
  cases e'
  have hv1 := HC4.out.1
  have hv2 := HC4.out.2.1
  unfold maxLen at hv2
  obtain ⟨c0, c1, c2, c3, c4, c5, c6, c7, c8, c9, c10, c11, c12⟩ := hca.ex
  obtain ⟨d0, d1, d2, d3, d4, d5, d6, d7, d8, d9, d10, d11, d12⟩ := hda.ex
  obtain ⟨E, hE⟩ : ∃ E : Bool, decide (bef c d) = E := ⟨_, rfl⟩
  have cB := fun W => bef_any c d pa pa' pc pc' W E hE
  have HE := Lib.hid (show E = true ↔ bef c d by rw [← hE]; exact decide_eq_true_iff)
  clear hca hda hE HCM HDM HC4
  obtain ⟨t, f, g, ⟨oc, ok, oh, ov⟩, ⟨ae, ao, ak, av, an, ap⟩⟩ := c
  obtain ⟨t', f', g', ⟨oc', ok', oh', ov'⟩, ⟨ae', ao', ak', av', an', ap'⟩⟩ := d
  unfold clV at cB
  dsimp only at c0 c1 c2 c3 c4 c5 c6 c7 c8 c9 c10 c11 c12 d0 d1 d2 d3 d4 d5 d6 d7 d8 d9 d10 d11 d12 cB
  try dsimp only at HSW
  have hw1 : IntKind.i64.wrap (k : Int) = (k : Int) := (wrapEqP _).trans (by unfold wrap64; omega)
  have hw2 : IntKind.i64.wrap ((k : Int) + 1) = (k : Int) + 1 := (wrapEqP _).trans (by unfold wrap64; omega)
  have hw3 : IntKind.i64.wrap (j : Int) = (j : Int) := (wrapEqP _).trans (by unfold wrap64; omega)
  have hw5 : IntKind.i64.wrap (i : Int) = (i : Int) := (wrapEqP _).trans (by unfold wrap64; omega)
  have HWK := Lib.hid (And.intro hw1 hw2)
  go_cut [10, 11] from 81 to 95 (fun v1 v2 wx => ∃ (q1 q2 : Nat), v1 = .pointer (some ⟨q1, 0, none⟩) ∧ v2 = .pointer (some ⟨q2, 0, none⟩) ∧ Bq wx q1 [.int .i64 t, .int .i64 f, .int .i64 g, .int .i64 oc, .int .i64 ok, .int .i64 oh, .int .i64 ov, .int .i64 ae, .bool ao, .int .i64 ak, .int .i64 av, .int .i64 an, .slice pa ap.length pc] ∧ Bq wx q2 [.int .i64 t', .int .i64 f', .int .i64 g', .int .i64 oc', .int .i64 ok', .int .i64 oh', .int .i64 ov', .int .i64 ae', .bool ao', .int .i64 ak', .int .i64 av', .int .i64 an', .slice pa' ap'.length pc'] ∧ Below v4.heap.size v4 wx)
  case first =>
    refine wp_region_held_drew (S := fun W => W.cell? ⟨bd, oo + j * 13, none⟩ = some (.int .i64 t) ∧ W.cell? ⟨bd, oo + j * 13 + 1, none⟩ = some (.int .i64 f) ∧ W.cell? ⟨bd, oo + j * 13 + 2, none⟩ = some (.int .i64 g) ∧ W.cell? ⟨bd, oo + j * 13 + 3, none⟩ = some (.int .i64 oc) ∧ W.cell? ⟨bd, oo + j * 13 + 4, none⟩ = some (.int .i64 ok) ∧ W.cell? ⟨bd, oo + j * 13 + 5, none⟩ = some (.int .i64 oh) ∧ W.cell? ⟨bd, oo + j * 13 + 6, none⟩ = some (.int .i64 ov) ∧ W.cell? ⟨bd, oo + j * 13 + 7, none⟩ = some (.int .i64 ae) ∧ W.cell? ⟨bd, oo + j * 13 + 8, none⟩ = some (.bool ao) ∧ W.cell? ⟨bd, oo + j * 13 + 9, none⟩ = some (.int .i64 ak) ∧ W.cell? ⟨bd, oo + j * 13 + 10, none⟩ = some (.int .i64 av) ∧ W.cell? ⟨bd, oo + j * 13 + 11, none⟩ = some (.int .i64 an) ∧ W.cell? ⟨bd, oo + j * 13 + 12, none⟩ = some (.slice pa ap.length pc) ∧ W.cell? ⟨bd, oo + i * 13, none⟩ = some (.int .i64 t') ∧ W.cell? ⟨bd, oo + i * 13 + 1, none⟩ = some (.int .i64 f') ∧ W.cell? ⟨bd, oo + i * 13 + 2, none⟩ = some (.int .i64 g') ∧ W.cell? ⟨bd, oo + i * 13 + 3, none⟩ = some (.int .i64 oc') ∧ W.cell? ⟨bd, oo + i * 13 + 4, none⟩ = some (.int .i64 ok') ∧ W.cell? ⟨bd, oo + i * 13 + 5, none⟩ = some (.int .i64 oh') ∧ W.cell? ⟨bd, oo + i * 13 + 6, none⟩ = some (.int .i64 ov') ∧ W.cell? ⟨bd, oo + i * 13 + 7, none⟩ = some (.int .i64 ae') ∧ W.cell? ⟨bd, oo + i * 13 + 8, none⟩ = some (.bool ao') ∧ W.cell? ⟨bd, oo + i * 13 + 9, none⟩ = some (.int .i64 ak') ∧ W.cell? ⟨bd, oo + i * 13 + 10, none⟩ = some (.int .i64 av') ∧ W.cell? ⟨bd, oo + i * 13 + 11, none⟩ = some (.int .i64 an') ∧ W.cell? ⟨bd, oo + i * 13 + 12, none⟩ = some (.slice pa' ap'.length pc') ∧ W.cell? ⟨bi, oi + k, none⟩ = some (.int .i64 (j : Int)) ∧ W.cell? ⟨bi, oi + (k + 1), none⟩ = some (.int .i64 (i : Int)) ∧ Below v4.heap.size v4 W) (by kernel_rfl) (by first | exact ⟨c0, c1, c2, c3, c4, c5, c6, c7, c8, c9, c10, c11, c12, d0, d1, d2, d3, d4, d5, d6, d7, d8, d9, d10, d11, d12, xx, yy, Below.refl _ _⟩ | exact ⟨c0, c1, c2, c3, c4, c5, c6, c7, c8, c9, c10, c11, c12, d0, d1, d2, d3, d4, d5, d6, d7, d8, d9, d10, d11, d12, xx, yy, (Below.refl _ _).drew⟩) (fun hHeld => ?_)
    refine tkO 0 ?_ rfl (by kernel_rfl) (fun _ _ _ h => h) ⟨by rfl, ?_⟩ hHeld ?_; rotate_left
    · intro wS hSw; (try dsimp only at hSw); (try go_split_ands); go_simp; try with_reducible rfl
    try simp only [List.getElem_toArray, List.getElem_cons_succ, List.getElem_cons_zero, Act.put, List.setIfInBounds_toArray, List.set_cons_zero, List.set_cons_succ]
    refine tkO 1 ?_ rfl (by kernel_rfl) (fun _ _ _ h => h) ⟨by rfl, ?_⟩ hHeld ?_; rotate_left
    · intro wS hSw; (try dsimp only at hSw); (try go_split_ands); go_simp; try with_reducible rfl
    try simp only [List.getElem_toArray, List.getElem_cons_succ, List.getElem_cons_zero, Act.put, List.setIfInBounds_toArray, List.set_cons_zero, List.set_cons_succ]
    refine tkO 2 ?_ rfl (by kernel_rfl) (fun _ _ _ h => h) ⟨by rfl, ?_⟩ hHeld ?_; rotate_left
    · intro wS hSw; (try dsimp only at hSw); (try go_split_ands); go_simp; try with_reducible rfl
    try simp only [List.getElem_toArray, List.getElem_cons_succ, List.getElem_cons_zero, Act.put, List.setIfInBounds_toArray, List.set_cons_zero, List.set_cons_succ]
    refine tkO 3 ?_ rfl (by kernel_rfl) (fun _ _ _ h => h) ⟨by rfl, ?_⟩ hHeld ?_; rotate_left
    · intro wS hSw; (try dsimp only at hSw); (try go_split_ands); go_simp; try with_reducible rfl
    try simp only [List.getElem_toArray, List.getElem_cons_succ, List.getElem_cons_zero, Act.put, List.setIfInBounds_toArray, List.set_cons_zero, List.set_cons_succ]
    refine tkO 4 ?_ rfl (by kernel_rfl) (fun _ _ _ h => h) ⟨by rfl, ?_⟩ hHeld ?_; rotate_left
    · intro wS hSw; (try dsimp only at hSw); (try go_split_ands); go_simp; try with_reducible rfl
    try simp only [List.getElem_toArray, List.getElem_cons_succ, List.getElem_cons_zero, Act.put, List.setIfInBounds_toArray, List.set_cons_zero, List.set_cons_succ]
    refine tkO 5 ?_ rfl (by kernel_rfl) (fun _ _ _ h => h) ⟨by rfl, ?_⟩ hHeld ?_; rotate_left
    · intro wS hSw; (try dsimp only at hSw); (try go_split_ands); go_simp; try with_reducible rfl
    try simp only [List.getElem_toArray, List.getElem_cons_succ, List.getElem_cons_zero, Act.put, List.setIfInBounds_toArray, List.set_cons_zero, List.set_cons_succ]
    refine tkO 6 ?_ rfl (by kernel_rfl) (fun _ _ _ h => h) ⟨by rfl, ?_⟩ hHeld ?_; rotate_left
    · intro wS hSw; (try dsimp only at hSw); (try go_split_ands); go_simp; try with_reducible rfl
    try simp only [List.getElem_toArray, List.getElem_cons_succ, List.getElem_cons_zero, Act.put, List.setIfInBounds_toArray, List.set_cons_zero, List.set_cons_succ]
    refine tkO 7 ?_ rfl (by kernel_rfl) (fun _ _ _ h => h) ⟨by rfl, ?_⟩ hHeld ?_; rotate_left
    · intro wS hSw; (try dsimp only at hSw); (try go_split_ands); go_simp; try with_reducible rfl
    try simp only [List.getElem_toArray, List.getElem_cons_succ, List.getElem_cons_zero, Act.put, List.setIfInBounds_toArray, List.set_cons_zero, List.set_cons_succ]
    refine tkO 8 ?_ rfl (by kernel_rfl) (fun _ _ _ h => h) ⟨by rfl, ?_⟩ hHeld ?_; rotate_left
    · intro wS hSw; (try dsimp only at hSw); (try go_split_ands); go_simp; try with_reducible rfl
    try simp only [List.getElem_toArray, List.getElem_cons_succ, List.getElem_cons_zero, Act.put, List.setIfInBounds_toArray, List.set_cons_zero, List.set_cons_succ]
    refine tkO 9 ?_ rfl (by kernel_rfl) (fun _ _ _ h => h) ⟨by rfl, ?_⟩ hHeld ?_; rotate_left
    · intro wS hSw; (try dsimp only at hSw); (try go_split_ands); go_simp; try with_reducible rfl
    try simp only [List.getElem_toArray, List.getElem_cons_succ, List.getElem_cons_zero, Act.put, List.setIfInBounds_toArray, List.set_cons_zero, List.set_cons_succ]
    refine tkO 10 ?_ rfl (by kernel_rfl) (fun _ _ _ h => h) ⟨by rfl, ?_⟩ hHeld ?_; rotate_left
    · intro wS hSw; (try dsimp only at hSw); (try go_split_ands); go_simp; try with_reducible rfl
    try simp only [List.getElem_toArray, List.getElem_cons_succ, List.getElem_cons_zero, Act.put, List.setIfInBounds_toArray, List.set_cons_zero, List.set_cons_succ]
    refine tkO 11 ?_ rfl (by kernel_rfl) (fun _ _ _ h => h) ⟨by rfl, ?_⟩ hHeld ?_; rotate_left
    · intro wS hSw; (try dsimp only at hSw); (try go_split_ands); go_simp; try with_reducible rfl
    try simp only [List.getElem_toArray, List.getElem_cons_succ, List.getElem_cons_zero, Act.put, List.setIfInBounds_toArray, List.set_cons_zero, List.set_cons_succ]
    refine tkO 12 ?_ rfl (by kernel_rfl) (fun _ _ _ h => h) ⟨by rfl, ?_⟩ hHeld ?_; rotate_left
    · intro wS hSw; (try dsimp only at hSw); (try go_split_ands); go_simp; try with_reducible rfl
    try simp only [List.getElem_toArray, List.getElem_cons_succ, List.getElem_cons_zero, Act.put, List.setIfInBounds_toArray, List.set_cons_zero, List.set_cons_succ]
    refine tkO 13 ?_ rfl (by kernel_rfl) (fun _ _ _ h => h) ⟨by rfl, ?_⟩ hHeld ?_; rotate_left
    · intro wS hSw; (try dsimp only at hSw); (try go_split_ands); go_simp; try with_reducible rfl
    try simp only [List.getElem_toArray, List.getElem_cons_succ, List.getElem_cons_zero, Act.put, List.setIfInBounds_toArray, List.set_cons_zero, List.set_cons_succ]
    refine tkO 14 ?_ rfl (by kernel_rfl) (fun _ _ _ h => h) ⟨by rfl, ?_⟩ hHeld ?_; rotate_left
    · intro wS hSw; (try dsimp only at hSw); (try go_split_ands); go_simp; try with_reducible rfl
    try simp only [List.getElem_toArray, List.getElem_cons_succ, List.getElem_cons_zero, Act.put, List.setIfInBounds_toArray, List.set_cons_zero, List.set_cons_succ]
    have HD0 := Lib.hid hHeld.2.2.2.2.2.2.2.2.2.2.2.2.2.2.2.2.2.2.2.2.2.2.2.2.2.2.2.2
    clear hw1 hw2 hw3 hw5 HWK
    generalize (World.drew v4 : World) = W0 at hHeld HD0 ⊢
    refine wpAnyH_ready (rs := [15, 16]) (by kernel_rfl) (by simp) ?_
    refine AllReadyH.cons rfl (fun K hK => ?_) (AllReadyH.cons rfl (fun K hK => ?_) AllReadyH.nil)
    · go_simp
      refine hK.out _ _ ?_ (fun hNext => ?_)
      · exact ⟨pkc (pb2 HD0.out (pal _)) c0, pkc (pb2 HD0.out (pal _)) c1, pkc (pb2 HD0.out (pal _)) c2, pkc (pb2 HD0.out (pal _)) c3, pkc (pb2 HD0.out (pal _)) c4, pkc (pb2 HD0.out (pal _)) c5, pkc (pb2 HD0.out (pal _)) c6, pkc (pb2 HD0.out (pal _)) c7, pkc (pb2 HD0.out (pal _)) c8, pkc (pb2 HD0.out (pal _)) c9, pkc (pb2 HD0.out (pal _)) c10, pkc (pb2 HD0.out (pal _)) c11, pkc (pb2 HD0.out (pal _)) c12, pkc (pb2 HD0.out (pal _)) d0, pkc (pb2 HD0.out (pal _)) d1, pkc (pb2 HD0.out (pal _)) d2, pkc (pb2 HD0.out (pal _)) d3, pkc (pb2 HD0.out (pal _)) d4, pkc (pb2 HD0.out (pal _)) d5, pkc (pb2 HD0.out (pal _)) d6, pkc (pb2 HD0.out (pal _)) d7, pkc (pb2 HD0.out (pal _)) d8, pkc (pb2 HD0.out (pal _)) d9, pkc (pb2 HD0.out (pal _)) d10, pkc (pb2 HD0.out (pal _)) d11, pkc (pb2 HD0.out (pal _)) d12, pkc (pb2 HD0.out (pal _)) xx, pkc (pb2 HD0.out (pal _)) yy, (pb2 HD0.out (pal _))⟩
      clear hK K hHeld
      have hHeld := hNext
      clear hNext
      try simp only [List.getElem_toArray, List.getElem_cons_succ, List.getElem_cons_zero, Act.put, List.setIfInBounds_toArray, List.set_cons_zero, List.set_cons_succ]
      have Q1 := Lib.hid (Bq.new W0 #[.int .i64 0, .int .i64 0, .int .i64 0, .int .i64 0, .int .i64 0, .int .i64 0, .int .i64 0, .int .i64 0, .bool false, .int .i64 0, .int .i64 0, .int .i64 0, .slice none 0 0] 59)
      have HD1 := Lib.hid (pb2 HD0.out (pal (.cells #[.int .i64 0, .int .i64 0, .int .i64 0, .int .i64 0, .int .i64 0, .int .i64 0, .int .i64 0, .int .i64 0, .bool false, .int .i64 0, .int .i64 0, .int .i64 0, .slice none 0 0] 59)))
      have hG1 := HD0.out.size
      have hS1 : W0.heap.size < (W0.alloc (.cells #[.int .i64 0, .int .i64 0, .int .i64 0, .int .i64 0, .int .i64 0, .int .i64 0, .int .i64 0, .int .i64 0, .bool false, .int .i64 0, .int .i64 0, .int .i64 0, .slice none 0 0] 59)).heap.size := by simp
      generalize W0.alloc (.cells #[.int .i64 0, .int .i64 0, .int .i64 0, .int .i64 0, .int .i64 0, .int .i64 0, .int .i64 0, .int .i64 0, .bool false, .int .i64 0, .int .i64 0, .int .i64 0, .slice none 0 0] 59) = W1 at *
      generalize W0.heap.size = q1 at *
      refine wpAnyH_ready (rs := [16]) (by kernel_rfl) (by simp) ?_
      refine AllReadyH.cons rfl (fun K hK => ?_) AllReadyH.nil
      go_simp
      refine hK.out _ _ ?_ (fun hNext => ?_)
      · exact ⟨pkc (pb2 HD1.out (pal _)) c0, pkc (pb2 HD1.out (pal _)) c1, pkc (pb2 HD1.out (pal _)) c2, pkc (pb2 HD1.out (pal _)) c3, pkc (pb2 HD1.out (pal _)) c4, pkc (pb2 HD1.out (pal _)) c5, pkc (pb2 HD1.out (pal _)) c6, pkc (pb2 HD1.out (pal _)) c7, pkc (pb2 HD1.out (pal _)) c8, pkc (pb2 HD1.out (pal _)) c9, pkc (pb2 HD1.out (pal _)) c10, pkc (pb2 HD1.out (pal _)) c11, pkc (pb2 HD1.out (pal _)) c12, pkc (pb2 HD1.out (pal _)) d0, pkc (pb2 HD1.out (pal _)) d1, pkc (pb2 HD1.out (pal _)) d2, pkc (pb2 HD1.out (pal _)) d3, pkc (pb2 HD1.out (pal _)) d4, pkc (pb2 HD1.out (pal _)) d5, pkc (pb2 HD1.out (pal _)) d6, pkc (pb2 HD1.out (pal _)) d7, pkc (pb2 HD1.out (pal _)) d8, pkc (pb2 HD1.out (pal _)) d9, pkc (pb2 HD1.out (pal _)) d10, pkc (pb2 HD1.out (pal _)) d11, pkc (pb2 HD1.out (pal _)) d12, pkc (pb2 HD1.out (pal _)) xx, pkc (pb2 HD1.out (pal _)) yy, (pb2 HD1.out (pal _))⟩
      clear hK K hHeld
      have hHeld := hNext
      clear hNext
      try simp only [List.getElem_toArray, List.getElem_cons_succ, List.getElem_cons_zero, Act.put, List.setIfInBounds_toArray, List.set_cons_zero, List.set_cons_succ]
      have Q2 := Lib.hid (Bq.new W1 #[.int .i64 0, .int .i64 0, .int .i64 0, .int .i64 0, .int .i64 0, .int .i64 0, .int .i64 0, .int .i64 0, .bool false, .int .i64 0, .int .i64 0, .int .i64 0, .slice none 0 0] 59)
      replace Q1 := Lib.hid (Q1.out.keep (pal (.cells #[.int .i64 0, .int .i64 0, .int .i64 0, .int .i64 0, .int .i64 0, .int .i64 0, .int .i64 0, .int .i64 0, .bool false, .int .i64 0, .int .i64 0, .int .i64 0, .slice none 0 0] 59)))
      have HD2 := Lib.hid (pb2 HD1.out (pal (.cells #[.int .i64 0, .int .i64 0, .int .i64 0, .int .i64 0, .int .i64 0, .int .i64 0, .int .i64 0, .int .i64 0, .bool false, .int .i64 0, .int .i64 0, .int .i64 0, .slice none 0 0] 59)))
      have hG2 := HD1.out.size
      have hN12 : ¬ q1 = W1.heap.size := by omega
      have hS2 : W1.heap.size < (W1.alloc (.cells #[.int .i64 0, .int .i64 0, .int .i64 0, .int .i64 0, .int .i64 0, .int .i64 0, .int .i64 0, .int .i64 0, .bool false, .int .i64 0, .int .i64 0, .int .i64 0, .slice none 0 0] 59)).heap.size := by simp
      generalize W1.alloc (.cells #[.int .i64 0, .int .i64 0, .int .i64 0, .int .i64 0, .int .i64 0, .int .i64 0, .int .i64 0, .int .i64 0, .bool false, .int .i64 0, .int .i64 0, .int .i64 0, .slice none 0 0] 59) = W2 at *
      generalize W1.heap.size = q2 at *
      refine wpAnyH_ready (rs := [17]) (by kernel_rfl) (by simp) ?_
      refine AllReadyH.cons rfl (fun K hK => ?_) AllReadyH.nil
      have y0 := Q1.out.at_ 0 _ rfl
      have y1 := Q1.out.at_ 1 _ rfl
      have y2 := Q1.out.at_ 2 _ rfl
      have y3 := Q1.out.at_ 3 _ rfl
      have y4 := Q1.out.at_ 4 _ rfl
      have y5 := Q1.out.at_ 5 _ rfl
      have y6 := Q1.out.at_ 6 _ rfl
      have y7 := Q1.out.at_ 7 _ rfl
      have y8 := Q1.out.at_ 8 _ rfl
      have y9 := Q1.out.at_ 9 _ rfl
      have y10 := Q1.out.at_ 10 _ rfl
      have y11 := Q1.out.at_ 11 _ rfl
      have y12 := Q1.out.at_ 12 _ rfl
      have z0 := Q1.out.fr 0
      have z1 := Q1.out.fr 1
      have z2 := Q1.out.fr 2
      have z3 := Q1.out.fr 3
      have z4 := Q1.out.fr 4
      have z5 := Q1.out.fr 5
      have z6 := Q1.out.fr 6
      have z7 := Q1.out.fr 7
      have z8 := Q1.out.fr 8
      have z9 := Q1.out.fr 9
      have z10 := Q1.out.fr 10
      have z11 := Q1.out.fr 11
      have z12 := Q1.out.fr 12
      go_simp
      have HX := stC_below (w0 := v4) (g := q1) hG1 [.int .i64 t, .int .i64 f, .int .i64 g, .int .i64 oc, .int .i64 ok, .int .i64 oh, .int .i64 ov, .int .i64 ae, .bool ao, .int .i64 ak, .int .i64 av, .int .i64 an, .slice pa ap.length pc] 0 W2 HD2.out
      have YX := stC_in [.int .i64 t, .int .i64 f, .int .i64 g, .int .i64 oc, .int .i64 ok, .int .i64 oh, .int .i64 ov, .int .i64 ae, .bool ao, .int .i64 ak, .int .i64 av, .int .i64 an, .slice pa ap.length pc] 0 W2 _ Q1.out (Nat.le_refl _)
      have YM := stC_other (b := q2) (g := q1) (by omega) [.int .i64 t, .int .i64 f, .int .i64 g, .int .i64 oc, .int .i64 ok, .int .i64 oh, .int .i64 ov, .int .i64 ae, .bool ao, .int .i64 ak, .int .i64 av, .int .i64 an, .slice pa ap.length pc] 0 W2 Q2.out
      simp only [stC, Nat.zero_add, Nat.reduceAdd, List.take_zero, List.nil_append, List.length_cons, List.length_nil, List.drop_succ_cons, List.drop_nil, List.append_nil] at HX YX YM
      refine hK.out _ _ ?_ (fun hNext => ?_)
      · exact ⟨pkc HX c0, pkc HX c1, pkc HX c2, pkc HX c3, pkc HX c4, pkc HX c5, pkc HX c6, pkc HX c7, pkc HX c8, pkc HX c9, pkc HX c10, pkc HX c11, pkc HX c12, pkc HX d0, pkc HX d1, pkc HX d2, pkc HX d3, pkc HX d4, pkc HX d5, pkc HX d6, pkc HX d7, pkc HX d8, pkc HX d9, pkc HX d10, pkc HX d11, pkc HX d12, pkc HX xx, pkc HX yy, HX⟩
      clear hK K hHeld
      have hHeld := hNext
      clear hNext
      try simp only [List.getElem_toArray, List.getElem_cons_succ, List.getElem_cons_zero, Act.put, List.setIfInBounds_toArray, List.set_cons_zero, List.set_cons_succ]
      clear y0 z0 y1 z1 y2 z2 y3 z3 y4 z4 y5 z5 y6 z6 y7 z7 y8 z8 y9 z9 y10 z10 y11 z11 y12 z12
      have HD3 := Lib.hid HX
      clear Q1 Q2
      have Q1 := Lib.hid YX
      have Q2 := Lib.hid YM
      clear HX YX YM
      generalize (((((((((((((W2.setCell ⟨q1, 0, none⟩ (.int .i64 t)).setCell ⟨q1, 1, none⟩ (.int .i64 f)).setCell ⟨q1, 2, none⟩ (.int .i64 g)).setCell ⟨q1, 3, none⟩ (.int .i64 oc)).setCell ⟨q1, 4, none⟩ (.int .i64 ok)).setCell ⟨q1, 5, none⟩ (.int .i64 oh)).setCell ⟨q1, 6, none⟩ (.int .i64 ov)).setCell ⟨q1, 7, none⟩ (.int .i64 ae)).setCell ⟨q1, 8, none⟩ (.bool ao)).setCell ⟨q1, 9, none⟩ (.int .i64 ak)).setCell ⟨q1, 10, none⟩ (.int .i64 av)).setCell ⟨q1, 11, none⟩ (.int .i64 an)).setCell ⟨q1, 12, none⟩ (.slice pa ap.length pc)) = W3 at *
      refine wpAnyH_ready (rs := [18]) (by kernel_rfl) (by simp) ?_
      refine AllReadyH.cons rfl (fun K hK => ?_) AllReadyH.nil
      have y0 := Q2.out.at_ 0 _ rfl
      have y1 := Q2.out.at_ 1 _ rfl
      have y2 := Q2.out.at_ 2 _ rfl
      have y3 := Q2.out.at_ 3 _ rfl
      have y4 := Q2.out.at_ 4 _ rfl
      have y5 := Q2.out.at_ 5 _ rfl
      have y6 := Q2.out.at_ 6 _ rfl
      have y7 := Q2.out.at_ 7 _ rfl
      have y8 := Q2.out.at_ 8 _ rfl
      have y9 := Q2.out.at_ 9 _ rfl
      have y10 := Q2.out.at_ 10 _ rfl
      have y11 := Q2.out.at_ 11 _ rfl
      have y12 := Q2.out.at_ 12 _ rfl
      have z0 := Q2.out.fr 0
      have z1 := Q2.out.fr 1
      have z2 := Q2.out.fr 2
      have z3 := Q2.out.fr 3
      have z4 := Q2.out.fr 4
      have z5 := Q2.out.fr 5
      have z6 := Q2.out.fr 6
      have z7 := Q2.out.fr 7
      have z8 := Q2.out.fr 8
      have z9 := Q2.out.fr 9
      have z10 := Q2.out.fr 10
      have z11 := Q2.out.fr 11
      have z12 := Q2.out.fr 12
      go_simp
      have HX := stC_below (w0 := v4) (g := q2) hG2 [.int .i64 t', .int .i64 f', .int .i64 g', .int .i64 oc', .int .i64 ok', .int .i64 oh', .int .i64 ov', .int .i64 ae', .bool ao', .int .i64 ak', .int .i64 av', .int .i64 an', .slice pa' ap'.length pc'] 0 W3 HD3.out
      have YX := stC_in [.int .i64 t', .int .i64 f', .int .i64 g', .int .i64 oc', .int .i64 ok', .int .i64 oh', .int .i64 ov', .int .i64 ae', .bool ao', .int .i64 ak', .int .i64 av', .int .i64 an', .slice pa' ap'.length pc'] 0 W3 _ Q2.out (Nat.le_refl _)
      have YM := stC_other (b := q1) (g := q2) (by omega) [.int .i64 t', .int .i64 f', .int .i64 g', .int .i64 oc', .int .i64 ok', .int .i64 oh', .int .i64 ov', .int .i64 ae', .bool ao', .int .i64 ak', .int .i64 av', .int .i64 an', .slice pa' ap'.length pc'] 0 W3 Q1.out
      simp only [stC, Nat.zero_add, Nat.reduceAdd, List.take_zero, List.nil_append, List.length_cons, List.length_nil, List.drop_succ_cons, List.drop_nil, List.append_nil] at HX YX YM
      refine hK.out _ _ ?_ (fun hNext => ?_)
      · exact ⟨pkc HX c0, pkc HX c1, pkc HX c2, pkc HX c3, pkc HX c4, pkc HX c5, pkc HX c6, pkc HX c7, pkc HX c8, pkc HX c9, pkc HX c10, pkc HX c11, pkc HX c12, pkc HX d0, pkc HX d1, pkc HX d2, pkc HX d3, pkc HX d4, pkc HX d5, pkc HX d6, pkc HX d7, pkc HX d8, pkc HX d9, pkc HX d10, pkc HX d11, pkc HX d12, pkc HX xx, pkc HX yy, HX⟩
      clear hK K hHeld
      have hHeld := hNext
      clear hNext
      try simp only [List.getElem_toArray, List.getElem_cons_succ, List.getElem_cons_zero, Act.put, List.setIfInBounds_toArray, List.set_cons_zero, List.set_cons_succ]
      clear y0 z0 y1 z1 y2 z2 y3 z3 y4 z4 y5 z5 y6 z6 y7 z7 y8 z8 y9 z9 y10 z10 y11 z11 y12 z12
      have HD4 := Lib.hid HX
      clear Q1 Q2
      have Q2 := Lib.hid YX
      have Q1 := Lib.hid YM
      clear HX YX YM
      generalize (((((((((((((W3.setCell ⟨q2, 0, none⟩ (.int .i64 t')).setCell ⟨q2, 1, none⟩ (.int .i64 f')).setCell ⟨q2, 2, none⟩ (.int .i64 g')).setCell ⟨q2, 3, none⟩ (.int .i64 oc')).setCell ⟨q2, 4, none⟩ (.int .i64 ok')).setCell ⟨q2, 5, none⟩ (.int .i64 oh')).setCell ⟨q2, 6, none⟩ (.int .i64 ov')).setCell ⟨q2, 7, none⟩ (.int .i64 ae')).setCell ⟨q2, 8, none⟩ (.bool ao')).setCell ⟨q2, 9, none⟩ (.int .i64 ak')).setCell ⟨q2, 10, none⟩ (.int .i64 av')).setCell ⟨q2, 11, none⟩ (.int .i64 an')).setCell ⟨q2, 12, none⟩ (.slice pa' ap'.length pc')) = W4 at *
      refine wpAnyH_done (by kernel_rfl) ?_ _
      clear hHeld
      go_wp2_with (fail)
      go_meet
      exact ⟨q1, q2, rfl, rfl, Q1.out, Q2.out, HD4.out⟩
    · go_simp
      refine hK.out _ _ ?_ (fun hNext => ?_)
      · exact ⟨pkc (pb2 HD0.out (pal _)) c0, pkc (pb2 HD0.out (pal _)) c1, pkc (pb2 HD0.out (pal _)) c2, pkc (pb2 HD0.out (pal _)) c3, pkc (pb2 HD0.out (pal _)) c4, pkc (pb2 HD0.out (pal _)) c5, pkc (pb2 HD0.out (pal _)) c6, pkc (pb2 HD0.out (pal _)) c7, pkc (pb2 HD0.out (pal _)) c8, pkc (pb2 HD0.out (pal _)) c9, pkc (pb2 HD0.out (pal _)) c10, pkc (pb2 HD0.out (pal _)) c11, pkc (pb2 HD0.out (pal _)) c12, pkc (pb2 HD0.out (pal _)) d0, pkc (pb2 HD0.out (pal _)) d1, pkc (pb2 HD0.out (pal _)) d2, pkc (pb2 HD0.out (pal _)) d3, pkc (pb2 HD0.out (pal _)) d4, pkc (pb2 HD0.out (pal _)) d5, pkc (pb2 HD0.out (pal _)) d6, pkc (pb2 HD0.out (pal _)) d7, pkc (pb2 HD0.out (pal _)) d8, pkc (pb2 HD0.out (pal _)) d9, pkc (pb2 HD0.out (pal _)) d10, pkc (pb2 HD0.out (pal _)) d11, pkc (pb2 HD0.out (pal _)) d12, pkc (pb2 HD0.out (pal _)) xx, pkc (pb2 HD0.out (pal _)) yy, (pb2 HD0.out (pal _))⟩
      clear hK K hHeld
      have hHeld := hNext
      clear hNext
      try simp only [List.getElem_toArray, List.getElem_cons_succ, List.getElem_cons_zero, Act.put, List.setIfInBounds_toArray, List.set_cons_zero, List.set_cons_succ]
      have Q2 := Lib.hid (Bq.new W0 #[.int .i64 0, .int .i64 0, .int .i64 0, .int .i64 0, .int .i64 0, .int .i64 0, .int .i64 0, .int .i64 0, .bool false, .int .i64 0, .int .i64 0, .int .i64 0, .slice none 0 0] 59)
      have HD1 := Lib.hid (pb2 HD0.out (pal (.cells #[.int .i64 0, .int .i64 0, .int .i64 0, .int .i64 0, .int .i64 0, .int .i64 0, .int .i64 0, .int .i64 0, .bool false, .int .i64 0, .int .i64 0, .int .i64 0, .slice none 0 0] 59)))
      have hG2 := HD0.out.size
      have hS2 : W0.heap.size < (W0.alloc (.cells #[.int .i64 0, .int .i64 0, .int .i64 0, .int .i64 0, .int .i64 0, .int .i64 0, .int .i64 0, .int .i64 0, .bool false, .int .i64 0, .int .i64 0, .int .i64 0, .slice none 0 0] 59)).heap.size := by simp
      generalize W0.alloc (.cells #[.int .i64 0, .int .i64 0, .int .i64 0, .int .i64 0, .int .i64 0, .int .i64 0, .int .i64 0, .int .i64 0, .bool false, .int .i64 0, .int .i64 0, .int .i64 0, .slice none 0 0] 59) = W1 at *
      generalize W0.heap.size = q2 at *
      refine wpAnyH_ready (rs := [15]) (by kernel_rfl) (by simp) ?_
      refine AllReadyH.cons rfl (fun K hK => ?_) AllReadyH.nil
      go_simp
      refine hK.out _ _ ?_ (fun hNext => ?_)
      · exact ⟨pkc (pb2 HD1.out (pal _)) c0, pkc (pb2 HD1.out (pal _)) c1, pkc (pb2 HD1.out (pal _)) c2, pkc (pb2 HD1.out (pal _)) c3, pkc (pb2 HD1.out (pal _)) c4, pkc (pb2 HD1.out (pal _)) c5, pkc (pb2 HD1.out (pal _)) c6, pkc (pb2 HD1.out (pal _)) c7, pkc (pb2 HD1.out (pal _)) c8, pkc (pb2 HD1.out (pal _)) c9, pkc (pb2 HD1.out (pal _)) c10, pkc (pb2 HD1.out (pal _)) c11, pkc (pb2 HD1.out (pal _)) c12, pkc (pb2 HD1.out (pal _)) d0, pkc (pb2 HD1.out (pal _)) d1, pkc (pb2 HD1.out (pal _)) d2, pkc (pb2 HD1.out (pal _)) d3, pkc (pb2 HD1.out (pal _)) d4, pkc (pb2 HD1.out (pal _)) d5, pkc (pb2 HD1.out (pal _)) d6, pkc (pb2 HD1.out (pal _)) d7, pkc (pb2 HD1.out (pal _)) d8, pkc (pb2 HD1.out (pal _)) d9, pkc (pb2 HD1.out (pal _)) d10, pkc (pb2 HD1.out (pal _)) d11, pkc (pb2 HD1.out (pal _)) d12, pkc (pb2 HD1.out (pal _)) xx, pkc (pb2 HD1.out (pal _)) yy, (pb2 HD1.out (pal _))⟩
      clear hK K hHeld
      have hHeld := hNext
      clear hNext
      try simp only [List.getElem_toArray, List.getElem_cons_succ, List.getElem_cons_zero, Act.put, List.setIfInBounds_toArray, List.set_cons_zero, List.set_cons_succ]
      have Q1 := Lib.hid (Bq.new W1 #[.int .i64 0, .int .i64 0, .int .i64 0, .int .i64 0, .int .i64 0, .int .i64 0, .int .i64 0, .int .i64 0, .bool false, .int .i64 0, .int .i64 0, .int .i64 0, .slice none 0 0] 59)
      replace Q2 := Lib.hid (Q2.out.keep (pal (.cells #[.int .i64 0, .int .i64 0, .int .i64 0, .int .i64 0, .int .i64 0, .int .i64 0, .int .i64 0, .int .i64 0, .bool false, .int .i64 0, .int .i64 0, .int .i64 0, .slice none 0 0] 59)))
      have HD2 := Lib.hid (pb2 HD1.out (pal (.cells #[.int .i64 0, .int .i64 0, .int .i64 0, .int .i64 0, .int .i64 0, .int .i64 0, .int .i64 0, .int .i64 0, .bool false, .int .i64 0, .int .i64 0, .int .i64 0, .slice none 0 0] 59)))
      have hG1 := HD1.out.size
      have hN21 : ¬ q2 = W1.heap.size := by omega
      have hS1 : W1.heap.size < (W1.alloc (.cells #[.int .i64 0, .int .i64 0, .int .i64 0, .int .i64 0, .int .i64 0, .int .i64 0, .int .i64 0, .int .i64 0, .bool false, .int .i64 0, .int .i64 0, .int .i64 0, .slice none 0 0] 59)).heap.size := by simp
      generalize W1.alloc (.cells #[.int .i64 0, .int .i64 0, .int .i64 0, .int .i64 0, .int .i64 0, .int .i64 0, .int .i64 0, .int .i64 0, .bool false, .int .i64 0, .int .i64 0, .int .i64 0, .slice none 0 0] 59) = W2 at *
      generalize W1.heap.size = q1 at *
      refine wpAnyH_ready (rs := [17]) (by kernel_rfl) (by simp) ?_
      refine AllReadyH.cons rfl (fun K hK => ?_) AllReadyH.nil
      have y0 := Q1.out.at_ 0 _ rfl
      have y1 := Q1.out.at_ 1 _ rfl
      have y2 := Q1.out.at_ 2 _ rfl
      have y3 := Q1.out.at_ 3 _ rfl
      have y4 := Q1.out.at_ 4 _ rfl
      have y5 := Q1.out.at_ 5 _ rfl
      have y6 := Q1.out.at_ 6 _ rfl
      have y7 := Q1.out.at_ 7 _ rfl
      have y8 := Q1.out.at_ 8 _ rfl
      have y9 := Q1.out.at_ 9 _ rfl
      have y10 := Q1.out.at_ 10 _ rfl
      have y11 := Q1.out.at_ 11 _ rfl
      have y12 := Q1.out.at_ 12 _ rfl
      have z0 := Q1.out.fr 0
      have z1 := Q1.out.fr 1
      have z2 := Q1.out.fr 2
      have z3 := Q1.out.fr 3
      have z4 := Q1.out.fr 4
      have z5 := Q1.out.fr 5
      have z6 := Q1.out.fr 6
      have z7 := Q1.out.fr 7
      have z8 := Q1.out.fr 8
      have z9 := Q1.out.fr 9
      have z10 := Q1.out.fr 10
      have z11 := Q1.out.fr 11
      have z12 := Q1.out.fr 12
      go_simp
      have HX := stC_below (w0 := v4) (g := q1) hG1 [.int .i64 t, .int .i64 f, .int .i64 g, .int .i64 oc, .int .i64 ok, .int .i64 oh, .int .i64 ov, .int .i64 ae, .bool ao, .int .i64 ak, .int .i64 av, .int .i64 an, .slice pa ap.length pc] 0 W2 HD2.out
      have YX := stC_in [.int .i64 t, .int .i64 f, .int .i64 g, .int .i64 oc, .int .i64 ok, .int .i64 oh, .int .i64 ov, .int .i64 ae, .bool ao, .int .i64 ak, .int .i64 av, .int .i64 an, .slice pa ap.length pc] 0 W2 _ Q1.out (Nat.le_refl _)
      have YM := stC_other (b := q2) (g := q1) (by omega) [.int .i64 t, .int .i64 f, .int .i64 g, .int .i64 oc, .int .i64 ok, .int .i64 oh, .int .i64 ov, .int .i64 ae, .bool ao, .int .i64 ak, .int .i64 av, .int .i64 an, .slice pa ap.length pc] 0 W2 Q2.out
      simp only [stC, Nat.zero_add, Nat.reduceAdd, List.take_zero, List.nil_append, List.length_cons, List.length_nil, List.drop_succ_cons, List.drop_nil, List.append_nil] at HX YX YM
      refine hK.out _ _ ?_ (fun hNext => ?_)
      · exact ⟨pkc HX c0, pkc HX c1, pkc HX c2, pkc HX c3, pkc HX c4, pkc HX c5, pkc HX c6, pkc HX c7, pkc HX c8, pkc HX c9, pkc HX c10, pkc HX c11, pkc HX c12, pkc HX d0, pkc HX d1, pkc HX d2, pkc HX d3, pkc HX d4, pkc HX d5, pkc HX d6, pkc HX d7, pkc HX d8, pkc HX d9, pkc HX d10, pkc HX d11, pkc HX d12, pkc HX xx, pkc HX yy, HX⟩
      clear hK K hHeld
      have hHeld := hNext
      clear hNext
      try simp only [List.getElem_toArray, List.getElem_cons_succ, List.getElem_cons_zero, Act.put, List.setIfInBounds_toArray, List.set_cons_zero, List.set_cons_succ]
      clear y0 z0 y1 z1 y2 z2 y3 z3 y4 z4 y5 z5 y6 z6 y7 z7 y8 z8 y9 z9 y10 z10 y11 z11 y12 z12
      have HD3 := Lib.hid HX
      clear Q1 Q2
      have Q1 := Lib.hid YX
      have Q2 := Lib.hid YM
      clear HX YX YM
      generalize (((((((((((((W2.setCell ⟨q1, 0, none⟩ (.int .i64 t)).setCell ⟨q1, 1, none⟩ (.int .i64 f)).setCell ⟨q1, 2, none⟩ (.int .i64 g)).setCell ⟨q1, 3, none⟩ (.int .i64 oc)).setCell ⟨q1, 4, none⟩ (.int .i64 ok)).setCell ⟨q1, 5, none⟩ (.int .i64 oh)).setCell ⟨q1, 6, none⟩ (.int .i64 ov)).setCell ⟨q1, 7, none⟩ (.int .i64 ae)).setCell ⟨q1, 8, none⟩ (.bool ao)).setCell ⟨q1, 9, none⟩ (.int .i64 ak)).setCell ⟨q1, 10, none⟩ (.int .i64 av)).setCell ⟨q1, 11, none⟩ (.int .i64 an)).setCell ⟨q1, 12, none⟩ (.slice pa ap.length pc)) = W3 at *
      refine wpAnyH_ready (rs := [18]) (by kernel_rfl) (by simp) ?_
      refine AllReadyH.cons rfl (fun K hK => ?_) AllReadyH.nil
      have y0 := Q2.out.at_ 0 _ rfl
      have y1 := Q2.out.at_ 1 _ rfl
      have y2 := Q2.out.at_ 2 _ rfl
      have y3 := Q2.out.at_ 3 _ rfl
      have y4 := Q2.out.at_ 4 _ rfl
      have y5 := Q2.out.at_ 5 _ rfl
      have y6 := Q2.out.at_ 6 _ rfl
      have y7 := Q2.out.at_ 7 _ rfl
      have y8 := Q2.out.at_ 8 _ rfl
      have y9 := Q2.out.at_ 9 _ rfl
      have y10 := Q2.out.at_ 10 _ rfl
      have y11 := Q2.out.at_ 11 _ rfl
      have y12 := Q2.out.at_ 12 _ rfl
      have z0 := Q2.out.fr 0
      have z1 := Q2.out.fr 1
      have z2 := Q2.out.fr 2
      have z3 := Q2.out.fr 3
      have z4 := Q2.out.fr 4
      have z5 := Q2.out.fr 5
      have z6 := Q2.out.fr 6
      have z7 := Q2.out.fr 7
      have z8 := Q2.out.fr 8
      have z9 := Q2.out.fr 9
      have z10 := Q2.out.fr 10
      have z11 := Q2.out.fr 11
      have z12 := Q2.out.fr 12
      go_simp
      have HX := stC_below (w0 := v4) (g := q2) hG2 [.int .i64 t', .int .i64 f', .int .i64 g', .int .i64 oc', .int .i64 ok', .int .i64 oh', .int .i64 ov', .int .i64 ae', .bool ao', .int .i64 ak', .int .i64 av', .int .i64 an', .slice pa' ap'.length pc'] 0 W3 HD3.out
      have YX := stC_in [.int .i64 t', .int .i64 f', .int .i64 g', .int .i64 oc', .int .i64 ok', .int .i64 oh', .int .i64 ov', .int .i64 ae', .bool ao', .int .i64 ak', .int .i64 av', .int .i64 an', .slice pa' ap'.length pc'] 0 W3 _ Q2.out (Nat.le_refl _)
      have YM := stC_other (b := q1) (g := q2) (by omega) [.int .i64 t', .int .i64 f', .int .i64 g', .int .i64 oc', .int .i64 ok', .int .i64 oh', .int .i64 ov', .int .i64 ae', .bool ao', .int .i64 ak', .int .i64 av', .int .i64 an', .slice pa' ap'.length pc'] 0 W3 Q1.out
      simp only [stC, Nat.zero_add, Nat.reduceAdd, List.take_zero, List.nil_append, List.length_cons, List.length_nil, List.drop_succ_cons, List.drop_nil, List.append_nil] at HX YX YM
      refine hK.out _ _ ?_ (fun hNext => ?_)
      · exact ⟨pkc HX c0, pkc HX c1, pkc HX c2, pkc HX c3, pkc HX c4, pkc HX c5, pkc HX c6, pkc HX c7, pkc HX c8, pkc HX c9, pkc HX c10, pkc HX c11, pkc HX c12, pkc HX d0, pkc HX d1, pkc HX d2, pkc HX d3, pkc HX d4, pkc HX d5, pkc HX d6, pkc HX d7, pkc HX d8, pkc HX d9, pkc HX d10, pkc HX d11, pkc HX d12, pkc HX xx, pkc HX yy, HX⟩
      clear hK K hHeld
      have hHeld := hNext
      clear hNext
      try simp only [List.getElem_toArray, List.getElem_cons_succ, List.getElem_cons_zero, Act.put, List.setIfInBounds_toArray, List.set_cons_zero, List.set_cons_succ]
      clear y0 z0 y1 z1 y2 z2 y3 z3 y4 z4 y5 z5 y6 z6 y7 z7 y8 z8 y9 z9 y10 z10 y11 z11 y12 z12
      have HD4 := Lib.hid HX
      clear Q1 Q2
      have Q2 := Lib.hid YX
      have Q1 := Lib.hid YM
      clear HX YX YM
      generalize (((((((((((((W3.setCell ⟨q2, 0, none⟩ (.int .i64 t')).setCell ⟨q2, 1, none⟩ (.int .i64 f')).setCell ⟨q2, 2, none⟩ (.int .i64 g')).setCell ⟨q2, 3, none⟩ (.int .i64 oc')).setCell ⟨q2, 4, none⟩ (.int .i64 ok')).setCell ⟨q2, 5, none⟩ (.int .i64 oh')).setCell ⟨q2, 6, none⟩ (.int .i64 ov')).setCell ⟨q2, 7, none⟩ (.int .i64 ae')).setCell ⟨q2, 8, none⟩ (.bool ao')).setCell ⟨q2, 9, none⟩ (.int .i64 ak')).setCell ⟨q2, 10, none⟩ (.int .i64 av')).setCell ⟨q2, 11, none⟩ (.int .i64 an')).setCell ⟨q2, 12, none⟩ (.slice pa' ap'.length pc')) = W4 at *
      refine wpAnyH_done (by kernel_rfl) ?_ _
      clear hHeld
      go_wp2_with (fail)
      go_meet
      exact ⟨q1, q2, rfl, rfl, Q1.out, Q2.out, HD4.out⟩
  case rest =>
    clear hw1 hw2 hw3 hw5
    obtain ⟨q1, q2, rfl, rfl, hQ1, hQ2, hBw⟩ := hcut
    have HQ1 := Lib.hid hQ1
    have HQ2 := Lib.hid hQ2
    have HB5 := Lib.hid (pb2 HB4.out hBw)
    have hql1 := hQ1.lt
    have hql2 := hQ2.lt
    have e3 := hQ1.at_ 3 _ rfl
    have f3 := hQ2.at_ 3 _ rfl
    clear hQ1 hQ2 hBw c0 c1 c2 c3 c4 c5 c6 c7 c8 c9 c10 c11 c12 d0 d1 d2 d3 d4 d5 d6 d7 d8 d9 d10 d11 d12 xx yy HB4
    by_cases ho1 : oc ≤ 3
    · go_wp2_with (first
        | (go_at_call 26; ((with_reducible refine (ca _ HB5.out).mono ?_); clear ca; rintro e wa ⟨rfl, hba⟩; have HBa := Lib.hid (pb2 HB5.out hba); clear hba))
        | fail)
      go_ret
      exact ⟨by simp, HBa.out⟩
    by_cases ho2 : oc' ≤ 3
    · go_wp2_with (first
        | (go_at_call 26; ((with_reducible refine (ca _ HB5.out).mono ?_); clear ca; rintro e wa ⟨rfl, hba⟩; have HBa := Lib.hid (pb2 HB5.out hba); clear hba))
        | fail)
      go_ret
      exact ⟨by simp, HBa.out⟩
    have HRG := Lib.hid (show (!E) = true ↔ ordR z0 z1 (swi z2 k) by
      rw [HOI.out, HSW.out (by omega) (by omega)]
      have h1 := HE.out
      cases E
      · exact ⟨fun _ h => (by have := h1.2 h; cases this), fun _ => rfl⟩
      · exact ⟨fun h => (by cases h), fun h => absurd (h1.1 rfl) h⟩)
    have ht := fun a' c' W hb h h2 => HCR.out a' c' (swi z2 k) W hb h h2 (!E) HRG.out
    rw [swi_len] at ht
    have HT := Lib.hid ht
    clear ht
    clear HOI HSW HE HRG HCR
    go_wp2_with (first
      | (at_builtin; refine wpList_tn rfl (.tmp 107) (.tmp 108) rfl wc (.slice (some ⟨wc.heap.size, 0, none⟩) 0 0) [] z2 rfl (TN.a0 (Below.refl _ _)) _ rfl (HRS.out _ (pb1 HB5.out _)) HL1.out z2.length HL2.out z2 rfl ?_; intro ao6 cp6 v6 hm6 hc6 hT6 hO6; have HT6 := Lib.hid hT6; clear hT6 hO6; unfold maxLen at hm6)
      | fail)
    obtain ⟨gm, rfl, hgs, m1⟩ := HT6.out.row.at HX.out
    obtain ⟨g', e', -, m2⟩ := HT6.out.row.at HY.out
    cases e'
    have mf := HT6.out.row.fr (by omega)
    have hgw : wc.heap.size ≤ gm := Nat.le_of_not_lt hgs
    have HQ1b := Lib.hid (HQ1.out.keep HT6.out.be)
    have HQ2b := Lib.hid (HQ2.out.keep HT6.out.be)
    have hN1 := HT6.out.row.set rfl k (i : Int)
    have hN2 := hN1.set (by rw [List.length_set]) (k + 1) (j : Int)
    have hB7 := Below.setCell (Below.setCell HT6.out.be (p := ⟨gm, k, none⟩) hgw (.int .i64 (i : Int))) (p := ⟨gm, k + 1, none⟩) hgw (.int .i64 (j : Int))
    rw [HSE.out] at hN2
    have HN2 := Lib.hid hN2.ri
    have HC7 := Lib.hid hB7
    have HQ1c := Lib.hid ((HQ1b.out.other (b' := gm) (k := k) (.int .i64 (i : Int)) (by omega)).other (b' := gm) (k := k + 1) (.int .i64 (j : Int)) (by omega))
    have HQ2c := Lib.hid ((HQ2b.out.other (b' := gm) (k := k) (.int .i64 (i : Int)) (by omega)).other (b' := gm) (k := k + 1) (.int .i64 (j : Int)) (by omega))
    clear hN1 hN2 hB7 HT6 HQ1 HQ2 HQ1b HQ2b e3 f3 hgs hgw hql1 hql2
    have hw1 := HWK.out.1
    have hw2 := HWK.out.2
    go_region
    have hd : Below ((v6.setCell ⟨gm, k, none⟩ (.int .i64 (i : Int))).setCell ⟨gm, k + 1, none⟩ (.int .i64 (j : Int))).heap.size ((v6.setCell ⟨gm, k, none⟩ (.int .i64 (i : Int))).setCell ⟨gm, k + 1, none⟩ (.int .i64 (j : Int))) ((v6.setCell ⟨gm, k, none⟩ (.int .i64 (i : Int))).setCell ⟨gm, k + 1, none⟩ (.int .i64 (j : Int))).drew := (Below.refl _ _).drew
    have HN3 := Lib.hid (HN2.out.below hd)
    have HQ1d := Lib.hid (HQ1c.out.keep hd)
    have HQ2d := Lib.hid (HQ2c.out.keep hd)
    have HB8 := Lib.hid (pb2 HB5.out (pb2 HC7.out hd))
    clear hd HN2 HQ1c HQ2c HC7 m1 m2 mf hw1 hw2 HWK HX HY
    generalize ((v6.setCell ⟨gm, k, none⟩ (.int .i64 (i : Int))).setCell ⟨gm, k + 1, none⟩ (.int .i64 (j : Int))).drew = v8 at HN3 HQ1d HQ2d HB8 ⊢
    have hln : z2.length ≤ 300 := by omega
    have hT := fun W (hb : Below v8.heap.size v8 W) => HT.out (some ⟨gm, 0, none⟩) cp6 W (pb2 HB8.out hb) (HN3.out.below hb) hln
    have hA := fun W (hb : Below v8.heap.size v8 W) => ca W (pb2 HB8.out hb)
    clear HT ca HN3
    go_wp2_with (fail)
    have ga0 := HQ1d.out.at_ 0 _ rfl
    have ga1 := HQ1d.out.at_ 1 _ rfl
    have ga2 := HQ1d.out.at_ 2 _ rfl
    have ga3 := HQ1d.out.at_ 3 _ rfl
    have ga4 := HQ1d.out.at_ 4 _ rfl
    have ga5 := HQ1d.out.at_ 5 _ rfl
    have ga6 := HQ1d.out.at_ 6 _ rfl
    have ga7 := HQ1d.out.at_ 7 _ rfl
    have ga8 := HQ1d.out.at_ 8 _ rfl
    have ga9 := HQ1d.out.at_ 9 _ rfl
    have ga10 := HQ1d.out.at_ 10 _ rfl
    have ga11 := HQ1d.out.at_ 11 _ rfl
    have ga12 := HQ1d.out.at_ 12 _ rfl
    have gb0 := HQ2d.out.at_ 0 _ rfl
    have gb1 := HQ2d.out.at_ 1 _ rfl
    have gb2 := HQ2d.out.at_ 2 _ rfl
    have gb3 := HQ2d.out.at_ 3 _ rfl
    have gb4 := HQ2d.out.at_ 4 _ rfl
    have gb5 := HQ2d.out.at_ 5 _ rfl
    have gb6 := HQ2d.out.at_ 6 _ rfl
    have gb7 := HQ2d.out.at_ 7 _ rfl
    have gb8 := HQ2d.out.at_ 8 _ rfl
    have gb9 := HQ2d.out.at_ 9 _ rfl
    have gb10 := HQ2d.out.at_ 10 _ rfl
    have gb11 := HQ2d.out.at_ 11 _ rfl
    have gb12 := HQ2d.out.at_ 12 _ rfl
    clear HQ1d HQ2d
    cases E
    ·
      refine wp_region_held_drew (S := fun W => W.cell? ⟨q1, 0, none⟩ = some (.int .i64 t) ∧ W.cell? ⟨q1, 1, none⟩ = some (.int .i64 f) ∧ W.cell? ⟨q1, 2, none⟩ = some (.int .i64 g) ∧ W.cell? ⟨q1, 3, none⟩ = some (.int .i64 oc) ∧ W.cell? ⟨q1, 4, none⟩ = some (.int .i64 ok) ∧ W.cell? ⟨q1, 5, none⟩ = some (.int .i64 oh) ∧ W.cell? ⟨q1, 6, none⟩ = some (.int .i64 ov) ∧ W.cell? ⟨q1, 7, none⟩ = some (.int .i64 ae) ∧ W.cell? ⟨q1, 8, none⟩ = some (.bool ao) ∧ W.cell? ⟨q1, 9, none⟩ = some (.int .i64 ak) ∧ W.cell? ⟨q1, 10, none⟩ = some (.int .i64 av) ∧ W.cell? ⟨q1, 11, none⟩ = some (.int .i64 an) ∧ W.cell? ⟨q1, 12, none⟩ = some (.slice pa ap.length pc) ∧ W.cell? ⟨q2, 0, none⟩ = some (.int .i64 t') ∧ W.cell? ⟨q2, 1, none⟩ = some (.int .i64 f') ∧ W.cell? ⟨q2, 2, none⟩ = some (.int .i64 g') ∧ W.cell? ⟨q2, 3, none⟩ = some (.int .i64 oc') ∧ W.cell? ⟨q2, 4, none⟩ = some (.int .i64 ok') ∧ W.cell? ⟨q2, 5, none⟩ = some (.int .i64 oh') ∧ W.cell? ⟨q2, 6, none⟩ = some (.int .i64 ov') ∧ W.cell? ⟨q2, 7, none⟩ = some (.int .i64 ae') ∧ W.cell? ⟨q2, 8, none⟩ = some (.bool ao') ∧ W.cell? ⟨q2, 9, none⟩ = some (.int .i64 ak') ∧ W.cell? ⟨q2, 10, none⟩ = some (.int .i64 av') ∧ W.cell? ⟨q2, 11, none⟩ = some (.int .i64 an') ∧ W.cell? ⟨q2, 12, none⟩ = some (.slice pa' ap'.length pc') ∧ Below v8.heap.size v8 W) (by kernel_rfl) (by first | exact ⟨ga0, ga1, ga2, ga3, ga4, ga5, ga6, ga7, ga8, ga9, ga10, ga11, ga12, gb0, gb1, gb2, gb3, gb4, gb5, gb6, gb7, gb8, gb9, gb10, gb11, gb12, Below.refl _ _⟩ | exact ⟨ga0, ga1, ga2, ga3, ga4, ga5, ga6, ga7, ga8, ga9, ga10, ga11, ga12, gb0, gb1, gb2, gb3, gb4, gb5, gb6, gb7, gb8, gb9, gb10, gb11, gb12, (Below.refl _ _).drew⟩ | exact ⟨ga0, ga1, ga2, ga3, ga4, ga5, ga6, ga7, ga8, ga9, ga10, ga11, ga12, gb0, gb1, gb2, gb3, gb4, gb5, gb6, gb7, gb8, gb9, gb10, gb11, gb12, ((Below.refl _ _).drew).drew⟩) (fun hHeld => ?_)
      refine tkO 0 ?_ rfl (by kernel_rfl) (fun _ _ _ h => h) ⟨by rfl, ?_⟩ hHeld ?_; rotate_left
      · intro wS hSw; (try dsimp only at hSw); (try go_split_ands); go_simp; try with_reducible rfl
      try simp only [List.getElem_toArray, List.getElem_cons_succ, List.getElem_cons_zero, Act.put, List.setIfInBounds_toArray, List.set_cons_zero, List.set_cons_succ]
      refine tkO 1 ?_ rfl (by kernel_rfl) (fun _ _ _ h => h) ⟨by rfl, ?_⟩ hHeld ?_; rotate_left
      · intro wS hSw; (try dsimp only at hSw); (try go_split_ands); go_simp; try with_reducible rfl
      try simp only [List.getElem_toArray, List.getElem_cons_succ, List.getElem_cons_zero, Act.put, List.setIfInBounds_toArray, List.set_cons_zero, List.set_cons_succ]
      refine tkO 2 ?_ rfl (by kernel_rfl) (fun _ _ _ h => h) ⟨by rfl, ?_⟩ hHeld ?_; rotate_left
      · intro wS hSw; (try dsimp only at hSw); (try go_split_ands); go_simp; try with_reducible rfl
      try simp only [List.getElem_toArray, List.getElem_cons_succ, List.getElem_cons_zero, Act.put, List.setIfInBounds_toArray, List.set_cons_zero, List.set_cons_succ]
      refine tkO 4 ?_ rfl (by kernel_rfl) (fun _ _ _ h => h) ⟨by rfl, ?_⟩ hHeld ?_; rotate_left
      · intro wS hSw; (try dsimp only at hSw); (try go_split_ands); go_simp; try with_reducible rfl
      try simp only [List.getElem_toArray, List.getElem_cons_succ, List.getElem_cons_zero, Act.put, List.setIfInBounds_toArray, List.set_cons_zero, List.set_cons_succ]
      refine tkO 5 ?_ rfl (by kernel_rfl) (fun _ _ _ h => h) ⟨by rfl, ?_⟩ hHeld ?_; rotate_left
      · intro wS hSw; (try dsimp only at hSw); (try go_split_ands); go_simp; try with_reducible rfl
      try simp only [List.getElem_toArray, List.getElem_cons_succ, List.getElem_cons_zero, Act.put, List.setIfInBounds_toArray, List.set_cons_zero, List.set_cons_succ]
      refine wpAnyH_ready (rs := [3]) (by kernel_rfl) (by simp) ?_
      refine AllReadyH.cons rfl (fun K hK => ?_) AllReadyH.nil
      go_simp
      (go_at_call 29; ((with_reducible refine (hT _ hHeld.2.2.2.2.2.2.2.2.2.2.2.2.2.2.2.2.2.2.2.2.2.2.2.2.2.2).mono ?_); rintro e Y ⟨rfl, hbY⟩))
      refine hK.out _ _ ?_ (fun hNext => ?_)
      · exact ⟨pkc hbY hHeld.1, pkc hbY hHeld.2.1, pkc hbY hHeld.2.2.1, pkc hbY hHeld.2.2.2.1, pkc hbY hHeld.2.2.2.2.1, pkc hbY hHeld.2.2.2.2.2.1, pkc hbY hHeld.2.2.2.2.2.2.1, pkc hbY hHeld.2.2.2.2.2.2.2.1, pkc hbY hHeld.2.2.2.2.2.2.2.2.1, pkc hbY hHeld.2.2.2.2.2.2.2.2.2.1, pkc hbY hHeld.2.2.2.2.2.2.2.2.2.2.1, pkc hbY hHeld.2.2.2.2.2.2.2.2.2.2.2.1, pkc hbY hHeld.2.2.2.2.2.2.2.2.2.2.2.2.1, pkc hbY hHeld.2.2.2.2.2.2.2.2.2.2.2.2.2.1, pkc hbY hHeld.2.2.2.2.2.2.2.2.2.2.2.2.2.2.1, pkc hbY hHeld.2.2.2.2.2.2.2.2.2.2.2.2.2.2.2.1, pkc hbY hHeld.2.2.2.2.2.2.2.2.2.2.2.2.2.2.2.2.1, pkc hbY hHeld.2.2.2.2.2.2.2.2.2.2.2.2.2.2.2.2.2.1, pkc hbY hHeld.2.2.2.2.2.2.2.2.2.2.2.2.2.2.2.2.2.2.1, pkc hbY hHeld.2.2.2.2.2.2.2.2.2.2.2.2.2.2.2.2.2.2.2.1, pkc hbY hHeld.2.2.2.2.2.2.2.2.2.2.2.2.2.2.2.2.2.2.2.2.1, pkc hbY hHeld.2.2.2.2.2.2.2.2.2.2.2.2.2.2.2.2.2.2.2.2.2.1, pkc hbY hHeld.2.2.2.2.2.2.2.2.2.2.2.2.2.2.2.2.2.2.2.2.2.2.1, pkc hbY hHeld.2.2.2.2.2.2.2.2.2.2.2.2.2.2.2.2.2.2.2.2.2.2.2.1, pkc hbY hHeld.2.2.2.2.2.2.2.2.2.2.2.2.2.2.2.2.2.2.2.2.2.2.2.2.1, pkc hbY hHeld.2.2.2.2.2.2.2.2.2.2.2.2.2.2.2.2.2.2.2.2.2.2.2.2.2.1, pb2 hHeld.2.2.2.2.2.2.2.2.2.2.2.2.2.2.2.2.2.2.2.2.2.2.2.2.2.2 hbY⟩
      clear hbY
      clear hK K hHeld
      have hHeld := hNext
      clear hNext
      try simp only [List.getElem_toArray, List.getElem_cons_succ, List.getElem_cons_zero, Act.put, List.setIfInBounds_toArray, List.set_cons_zero, List.set_cons_succ]
      refine wpAnyH_ready (rs := [6]) (by kernel_rfl) (by simp) ?_
      refine AllReadyH.cons rfl (fun K hK => ?_) AllReadyH.nil
      go_simp
      (go_at_call 25; ((with_reducible refine (cB _).mono ?_); rintro e Y ⟨rfl, hbY⟩))
      refine hK.out _ _ ?_ (fun hNext => ?_)
      · exact ⟨pkc hbY hHeld.1, pkc hbY hHeld.2.1, pkc hbY hHeld.2.2.1, pkc hbY hHeld.2.2.2.1, pkc hbY hHeld.2.2.2.2.1, pkc hbY hHeld.2.2.2.2.2.1, pkc hbY hHeld.2.2.2.2.2.2.1, pkc hbY hHeld.2.2.2.2.2.2.2.1, pkc hbY hHeld.2.2.2.2.2.2.2.2.1, pkc hbY hHeld.2.2.2.2.2.2.2.2.2.1, pkc hbY hHeld.2.2.2.2.2.2.2.2.2.2.1, pkc hbY hHeld.2.2.2.2.2.2.2.2.2.2.2.1, pkc hbY hHeld.2.2.2.2.2.2.2.2.2.2.2.2.1, pkc hbY hHeld.2.2.2.2.2.2.2.2.2.2.2.2.2.1, pkc hbY hHeld.2.2.2.2.2.2.2.2.2.2.2.2.2.2.1, pkc hbY hHeld.2.2.2.2.2.2.2.2.2.2.2.2.2.2.2.1, pkc hbY hHeld.2.2.2.2.2.2.2.2.2.2.2.2.2.2.2.2.1, pkc hbY hHeld.2.2.2.2.2.2.2.2.2.2.2.2.2.2.2.2.2.1, pkc hbY hHeld.2.2.2.2.2.2.2.2.2.2.2.2.2.2.2.2.2.2.1, pkc hbY hHeld.2.2.2.2.2.2.2.2.2.2.2.2.2.2.2.2.2.2.2.1, pkc hbY hHeld.2.2.2.2.2.2.2.2.2.2.2.2.2.2.2.2.2.2.2.2.1, pkc hbY hHeld.2.2.2.2.2.2.2.2.2.2.2.2.2.2.2.2.2.2.2.2.2.1, pkc hbY hHeld.2.2.2.2.2.2.2.2.2.2.2.2.2.2.2.2.2.2.2.2.2.2.1, pkc hbY hHeld.2.2.2.2.2.2.2.2.2.2.2.2.2.2.2.2.2.2.2.2.2.2.2.1, pkc hbY hHeld.2.2.2.2.2.2.2.2.2.2.2.2.2.2.2.2.2.2.2.2.2.2.2.2.1, pkc hbY hHeld.2.2.2.2.2.2.2.2.2.2.2.2.2.2.2.2.2.2.2.2.2.2.2.2.2.1, pb2 hHeld.2.2.2.2.2.2.2.2.2.2.2.2.2.2.2.2.2.2.2.2.2.2.2.2.2.2 hbY⟩
      clear hbY
      clear hK K hHeld
      have hHeld := hNext
      clear hNext
      try simp only [List.getElem_toArray, List.getElem_cons_succ, List.getElem_cons_zero, Act.put, List.setIfInBounds_toArray, List.set_cons_zero, List.set_cons_succ]
      refine tkO 7 ?_ rfl (by kernel_rfl) (fun _ _ _ h => h) ⟨by rfl, ?_⟩ hHeld ?_; rotate_left
      · intro wS hSw; (try dsimp only at hSw); (try go_split_ands); go_simp; try with_reducible rfl
      try simp only [List.getElem_toArray, List.getElem_cons_succ, List.getElem_cons_zero, Act.put, List.setIfInBounds_toArray, List.set_cons_zero, List.set_cons_succ]
      refine tkO 8 ?_ rfl (by kernel_rfl) (fun _ _ _ h => h) ⟨by rfl, ?_⟩ hHeld ?_; rotate_left
      · intro wS hSw; (try dsimp only at hSw); (try go_split_ands); go_simp; try with_reducible rfl
      try simp only [List.getElem_toArray, List.getElem_cons_succ, List.getElem_cons_zero, Act.put, List.setIfInBounds_toArray, List.set_cons_zero, List.set_cons_succ]
      refine tkO 9 ?_ rfl (by kernel_rfl) (fun _ _ _ h => h) ⟨by rfl, ?_⟩ hHeld ?_; rotate_left
      · intro wS hSw; (try dsimp only at hSw); (try go_split_ands); go_simp; try with_reducible rfl
      try simp only [List.getElem_toArray, List.getElem_cons_succ, List.getElem_cons_zero, Act.put, List.setIfInBounds_toArray, List.set_cons_zero, List.set_cons_succ]
      refine wpAnyH_ready (rs := [10]) (by kernel_rfl) (by simp) ?_
      refine AllReadyH.cons rfl (fun K hK => ?_) AllReadyH.nil
      go_simp
      (go_at_call 26; ((with_reducible refine (hA _ hHeld.2.2.2.2.2.2.2.2.2.2.2.2.2.2.2.2.2.2.2.2.2.2.2.2.2.2).mono ?_); rintro e Y ⟨rfl, hbY⟩))
      refine hK.out _ _ ?_ (fun hNext => ?_)
      · exact ⟨pkc hbY hHeld.1, pkc hbY hHeld.2.1, pkc hbY hHeld.2.2.1, pkc hbY hHeld.2.2.2.1, pkc hbY hHeld.2.2.2.2.1, pkc hbY hHeld.2.2.2.2.2.1, pkc hbY hHeld.2.2.2.2.2.2.1, pkc hbY hHeld.2.2.2.2.2.2.2.1, pkc hbY hHeld.2.2.2.2.2.2.2.2.1, pkc hbY hHeld.2.2.2.2.2.2.2.2.2.1, pkc hbY hHeld.2.2.2.2.2.2.2.2.2.2.1, pkc hbY hHeld.2.2.2.2.2.2.2.2.2.2.2.1, pkc hbY hHeld.2.2.2.2.2.2.2.2.2.2.2.2.1, pkc hbY hHeld.2.2.2.2.2.2.2.2.2.2.2.2.2.1, pkc hbY hHeld.2.2.2.2.2.2.2.2.2.2.2.2.2.2.1, pkc hbY hHeld.2.2.2.2.2.2.2.2.2.2.2.2.2.2.2.1, pkc hbY hHeld.2.2.2.2.2.2.2.2.2.2.2.2.2.2.2.2.1, pkc hbY hHeld.2.2.2.2.2.2.2.2.2.2.2.2.2.2.2.2.2.1, pkc hbY hHeld.2.2.2.2.2.2.2.2.2.2.2.2.2.2.2.2.2.2.1, pkc hbY hHeld.2.2.2.2.2.2.2.2.2.2.2.2.2.2.2.2.2.2.2.1, pkc hbY hHeld.2.2.2.2.2.2.2.2.2.2.2.2.2.2.2.2.2.2.2.2.1, pkc hbY hHeld.2.2.2.2.2.2.2.2.2.2.2.2.2.2.2.2.2.2.2.2.2.1, pkc hbY hHeld.2.2.2.2.2.2.2.2.2.2.2.2.2.2.2.2.2.2.2.2.2.2.1, pkc hbY hHeld.2.2.2.2.2.2.2.2.2.2.2.2.2.2.2.2.2.2.2.2.2.2.2.1, pkc hbY hHeld.2.2.2.2.2.2.2.2.2.2.2.2.2.2.2.2.2.2.2.2.2.2.2.2.1, pkc hbY hHeld.2.2.2.2.2.2.2.2.2.2.2.2.2.2.2.2.2.2.2.2.2.2.2.2.2.1, pb2 hHeld.2.2.2.2.2.2.2.2.2.2.2.2.2.2.2.2.2.2.2.2.2.2.2.2.2.2 hbY⟩
      clear hbY
      clear hK K hHeld
      have hHeld := hNext
      clear hNext
      try simp only [List.getElem_toArray, List.getElem_cons_succ, List.getElem_cons_zero, Act.put, List.setIfInBounds_toArray, List.set_cons_zero, List.set_cons_succ]
      refine tkO 11 ?_ rfl (by kernel_rfl) (fun _ _ _ h => h) ⟨by rfl, ?_⟩ hHeld ?_; rotate_left
      · intro wS hSw; (try dsimp only at hSw); (try go_split_ands); go_simp; try with_reducible rfl
      try simp only [List.getElem_toArray, List.getElem_cons_succ, List.getElem_cons_zero, Act.put, List.setIfInBounds_toArray, List.set_cons_zero, List.set_cons_succ]
      refine tkO 12 ?_ rfl (by kernel_rfl) (fun _ _ _ h => h) ⟨by rfl, ?_⟩ hHeld ?_; rotate_left
      · intro wS hSw; (try dsimp only at hSw); (try go_split_ands); go_simp; try with_reducible rfl
      try simp only [List.getElem_toArray, List.getElem_cons_succ, List.getElem_cons_zero, Act.put, List.setIfInBounds_toArray, List.set_cons_zero, List.set_cons_succ]
      refine wpAnyH_done (by kernel_rfl) ?_ _
      have HBZ := Lib.hid (pb2 HB8.out hHeld.2.2.2.2.2.2.2.2.2.2.2.2.2.2.2.2.2.2.2.2.2.2.2.2.2.2)
      clear hHeld
      go_wp2_with (fail)
      go_ret
      exact ⟨by simp, HBZ.out⟩
    ·
      refine wp_region_held_drew (S := fun W => W.cell? ⟨q1, 0, none⟩ = some (.int .i64 t) ∧ W.cell? ⟨q1, 1, none⟩ = some (.int .i64 f) ∧ W.cell? ⟨q1, 2, none⟩ = some (.int .i64 g) ∧ W.cell? ⟨q1, 3, none⟩ = some (.int .i64 oc) ∧ W.cell? ⟨q1, 4, none⟩ = some (.int .i64 ok) ∧ W.cell? ⟨q1, 5, none⟩ = some (.int .i64 oh) ∧ W.cell? ⟨q1, 6, none⟩ = some (.int .i64 ov) ∧ W.cell? ⟨q1, 7, none⟩ = some (.int .i64 ae) ∧ W.cell? ⟨q1, 8, none⟩ = some (.bool ao) ∧ W.cell? ⟨q1, 9, none⟩ = some (.int .i64 ak) ∧ W.cell? ⟨q1, 10, none⟩ = some (.int .i64 av) ∧ W.cell? ⟨q1, 11, none⟩ = some (.int .i64 an) ∧ W.cell? ⟨q1, 12, none⟩ = some (.slice pa ap.length pc) ∧ W.cell? ⟨q2, 0, none⟩ = some (.int .i64 t') ∧ W.cell? ⟨q2, 1, none⟩ = some (.int .i64 f') ∧ W.cell? ⟨q2, 2, none⟩ = some (.int .i64 g') ∧ W.cell? ⟨q2, 3, none⟩ = some (.int .i64 oc') ∧ W.cell? ⟨q2, 4, none⟩ = some (.int .i64 ok') ∧ W.cell? ⟨q2, 5, none⟩ = some (.int .i64 oh') ∧ W.cell? ⟨q2, 6, none⟩ = some (.int .i64 ov') ∧ W.cell? ⟨q2, 7, none⟩ = some (.int .i64 ae') ∧ W.cell? ⟨q2, 8, none⟩ = some (.bool ao') ∧ W.cell? ⟨q2, 9, none⟩ = some (.int .i64 ak') ∧ W.cell? ⟨q2, 10, none⟩ = some (.int .i64 av') ∧ W.cell? ⟨q2, 11, none⟩ = some (.int .i64 an') ∧ W.cell? ⟨q2, 12, none⟩ = some (.slice pa' ap'.length pc') ∧ Below v8.heap.size v8 W) (by kernel_rfl) (by first | exact ⟨ga0, ga1, ga2, ga3, ga4, ga5, ga6, ga7, ga8, ga9, ga10, ga11, ga12, gb0, gb1, gb2, gb3, gb4, gb5, gb6, gb7, gb8, gb9, gb10, gb11, gb12, Below.refl _ _⟩ | exact ⟨ga0, ga1, ga2, ga3, ga4, ga5, ga6, ga7, ga8, ga9, ga10, ga11, ga12, gb0, gb1, gb2, gb3, gb4, gb5, gb6, gb7, gb8, gb9, gb10, gb11, gb12, (Below.refl _ _).drew⟩ | exact ⟨ga0, ga1, ga2, ga3, ga4, ga5, ga6, ga7, ga8, ga9, ga10, ga11, ga12, gb0, gb1, gb2, gb3, gb4, gb5, gb6, gb7, gb8, gb9, gb10, gb11, gb12, ((Below.refl _ _).drew).drew⟩) (fun hHeld => ?_)
      refine tkO 0 ?_ rfl (by kernel_rfl) (fun _ _ _ h => h) ⟨by rfl, ?_⟩ hHeld ?_; rotate_left
      · intro wS hSw; (try dsimp only at hSw); (try go_split_ands); go_simp; try with_reducible rfl
      try simp only [List.getElem_toArray, List.getElem_cons_succ, List.getElem_cons_zero, Act.put, List.setIfInBounds_toArray, List.set_cons_zero, List.set_cons_succ]
      refine tkO 1 ?_ rfl (by kernel_rfl) (fun _ _ _ h => h) ⟨by rfl, ?_⟩ hHeld ?_; rotate_left
      · intro wS hSw; (try dsimp only at hSw); (try go_split_ands); go_simp; try with_reducible rfl
      try simp only [List.getElem_toArray, List.getElem_cons_succ, List.getElem_cons_zero, Act.put, List.setIfInBounds_toArray, List.set_cons_zero, List.set_cons_succ]
      refine tkO 2 ?_ rfl (by kernel_rfl) (fun _ _ _ h => h) ⟨by rfl, ?_⟩ hHeld ?_; rotate_left
      · intro wS hSw; (try dsimp only at hSw); (try go_split_ands); go_simp; try with_reducible rfl
      try simp only [List.getElem_toArray, List.getElem_cons_succ, List.getElem_cons_zero, Act.put, List.setIfInBounds_toArray, List.set_cons_zero, List.set_cons_succ]
      refine tkO 4 ?_ rfl (by kernel_rfl) (fun _ _ _ h => h) ⟨by rfl, ?_⟩ hHeld ?_; rotate_left
      · intro wS hSw; (try dsimp only at hSw); (try go_split_ands); go_simp; try with_reducible rfl
      try simp only [List.getElem_toArray, List.getElem_cons_succ, List.getElem_cons_zero, Act.put, List.setIfInBounds_toArray, List.set_cons_zero, List.set_cons_succ]
      refine tkO 5 ?_ rfl (by kernel_rfl) (fun _ _ _ h => h) ⟨by rfl, ?_⟩ hHeld ?_; rotate_left
      · intro wS hSw; (try dsimp only at hSw); (try go_split_ands); go_simp; try with_reducible rfl
      try simp only [List.getElem_toArray, List.getElem_cons_succ, List.getElem_cons_zero, Act.put, List.setIfInBounds_toArray, List.set_cons_zero, List.set_cons_succ]
      refine wpAnyH_ready (rs := [3]) (by kernel_rfl) (by simp) ?_
      refine AllReadyH.cons rfl (fun K hK => ?_) AllReadyH.nil
      go_simp
      (go_at_call 29; ((with_reducible refine (hT _ hHeld.2.2.2.2.2.2.2.2.2.2.2.2.2.2.2.2.2.2.2.2.2.2.2.2.2.2).mono ?_); rintro e Y ⟨rfl, hbY⟩))
      refine hK.out _ _ ?_ (fun hNext => ?_)
      · exact ⟨pkc hbY hHeld.1, pkc hbY hHeld.2.1, pkc hbY hHeld.2.2.1, pkc hbY hHeld.2.2.2.1, pkc hbY hHeld.2.2.2.2.1, pkc hbY hHeld.2.2.2.2.2.1, pkc hbY hHeld.2.2.2.2.2.2.1, pkc hbY hHeld.2.2.2.2.2.2.2.1, pkc hbY hHeld.2.2.2.2.2.2.2.2.1, pkc hbY hHeld.2.2.2.2.2.2.2.2.2.1, pkc hbY hHeld.2.2.2.2.2.2.2.2.2.2.1, pkc hbY hHeld.2.2.2.2.2.2.2.2.2.2.2.1, pkc hbY hHeld.2.2.2.2.2.2.2.2.2.2.2.2.1, pkc hbY hHeld.2.2.2.2.2.2.2.2.2.2.2.2.2.1, pkc hbY hHeld.2.2.2.2.2.2.2.2.2.2.2.2.2.2.1, pkc hbY hHeld.2.2.2.2.2.2.2.2.2.2.2.2.2.2.2.1, pkc hbY hHeld.2.2.2.2.2.2.2.2.2.2.2.2.2.2.2.2.1, pkc hbY hHeld.2.2.2.2.2.2.2.2.2.2.2.2.2.2.2.2.2.1, pkc hbY hHeld.2.2.2.2.2.2.2.2.2.2.2.2.2.2.2.2.2.2.1, pkc hbY hHeld.2.2.2.2.2.2.2.2.2.2.2.2.2.2.2.2.2.2.2.1, pkc hbY hHeld.2.2.2.2.2.2.2.2.2.2.2.2.2.2.2.2.2.2.2.2.1, pkc hbY hHeld.2.2.2.2.2.2.2.2.2.2.2.2.2.2.2.2.2.2.2.2.2.1, pkc hbY hHeld.2.2.2.2.2.2.2.2.2.2.2.2.2.2.2.2.2.2.2.2.2.2.1, pkc hbY hHeld.2.2.2.2.2.2.2.2.2.2.2.2.2.2.2.2.2.2.2.2.2.2.2.1, pkc hbY hHeld.2.2.2.2.2.2.2.2.2.2.2.2.2.2.2.2.2.2.2.2.2.2.2.2.1, pkc hbY hHeld.2.2.2.2.2.2.2.2.2.2.2.2.2.2.2.2.2.2.2.2.2.2.2.2.2.1, pb2 hHeld.2.2.2.2.2.2.2.2.2.2.2.2.2.2.2.2.2.2.2.2.2.2.2.2.2.2 hbY⟩
      clear hbY
      clear hK K hHeld
      have hHeld := hNext
      clear hNext
      try simp only [List.getElem_toArray, List.getElem_cons_succ, List.getElem_cons_zero, Act.put, List.setIfInBounds_toArray, List.set_cons_zero, List.set_cons_succ]
      refine wpAnyH_ready (rs := [6]) (by kernel_rfl) (by simp) ?_
      refine AllReadyH.cons rfl (fun K hK => ?_) AllReadyH.nil
      go_simp
      (go_at_call 25; ((with_reducible refine (cB _).mono ?_); rintro e Y ⟨rfl, hbY⟩))
      refine hK.out _ _ ?_ (fun hNext => ?_)
      · exact ⟨pkc hbY hHeld.1, pkc hbY hHeld.2.1, pkc hbY hHeld.2.2.1, pkc hbY hHeld.2.2.2.1, pkc hbY hHeld.2.2.2.2.1, pkc hbY hHeld.2.2.2.2.2.1, pkc hbY hHeld.2.2.2.2.2.2.1, pkc hbY hHeld.2.2.2.2.2.2.2.1, pkc hbY hHeld.2.2.2.2.2.2.2.2.1, pkc hbY hHeld.2.2.2.2.2.2.2.2.2.1, pkc hbY hHeld.2.2.2.2.2.2.2.2.2.2.1, pkc hbY hHeld.2.2.2.2.2.2.2.2.2.2.2.1, pkc hbY hHeld.2.2.2.2.2.2.2.2.2.2.2.2.1, pkc hbY hHeld.2.2.2.2.2.2.2.2.2.2.2.2.2.1, pkc hbY hHeld.2.2.2.2.2.2.2.2.2.2.2.2.2.2.1, pkc hbY hHeld.2.2.2.2.2.2.2.2.2.2.2.2.2.2.2.1, pkc hbY hHeld.2.2.2.2.2.2.2.2.2.2.2.2.2.2.2.2.1, pkc hbY hHeld.2.2.2.2.2.2.2.2.2.2.2.2.2.2.2.2.2.1, pkc hbY hHeld.2.2.2.2.2.2.2.2.2.2.2.2.2.2.2.2.2.2.1, pkc hbY hHeld.2.2.2.2.2.2.2.2.2.2.2.2.2.2.2.2.2.2.2.1, pkc hbY hHeld.2.2.2.2.2.2.2.2.2.2.2.2.2.2.2.2.2.2.2.2.1, pkc hbY hHeld.2.2.2.2.2.2.2.2.2.2.2.2.2.2.2.2.2.2.2.2.2.1, pkc hbY hHeld.2.2.2.2.2.2.2.2.2.2.2.2.2.2.2.2.2.2.2.2.2.2.1, pkc hbY hHeld.2.2.2.2.2.2.2.2.2.2.2.2.2.2.2.2.2.2.2.2.2.2.2.1, pkc hbY hHeld.2.2.2.2.2.2.2.2.2.2.2.2.2.2.2.2.2.2.2.2.2.2.2.2.1, pkc hbY hHeld.2.2.2.2.2.2.2.2.2.2.2.2.2.2.2.2.2.2.2.2.2.2.2.2.2.1, pb2 hHeld.2.2.2.2.2.2.2.2.2.2.2.2.2.2.2.2.2.2.2.2.2.2.2.2.2.2 hbY⟩
      clear hbY
      clear hK K hHeld
      have hHeld := hNext
      clear hNext
      try simp only [List.getElem_toArray, List.getElem_cons_succ, List.getElem_cons_zero, Act.put, List.setIfInBounds_toArray, List.set_cons_zero, List.set_cons_succ]
      refine tkO 7 ?_ rfl (by kernel_rfl) (fun _ _ _ h => h) ⟨by rfl, ?_⟩ hHeld ?_; rotate_left
      · intro wS hSw; (try dsimp only at hSw); (try go_split_ands); go_simp; try with_reducible rfl
      try simp only [List.getElem_toArray, List.getElem_cons_succ, List.getElem_cons_zero, Act.put, List.setIfInBounds_toArray, List.set_cons_zero, List.set_cons_succ]
      refine tkO 8 ?_ rfl (by kernel_rfl) (fun _ _ _ h => h) ⟨by rfl, ?_⟩ hHeld ?_; rotate_left
      · intro wS hSw; (try dsimp only at hSw); (try go_split_ands); go_simp; try with_reducible rfl
      try simp only [List.getElem_toArray, List.getElem_cons_succ, List.getElem_cons_zero, Act.put, List.setIfInBounds_toArray, List.set_cons_zero, List.set_cons_succ]
      refine tkO 9 ?_ rfl (by kernel_rfl) (fun _ _ _ h => h) ⟨by rfl, ?_⟩ hHeld ?_; rotate_left
      · intro wS hSw; (try dsimp only at hSw); (try go_split_ands); go_simp; try with_reducible rfl
      try simp only [List.getElem_toArray, List.getElem_cons_succ, List.getElem_cons_zero, Act.put, List.setIfInBounds_toArray, List.set_cons_zero, List.set_cons_succ]
      refine wpAnyH_ready (rs := [10]) (by kernel_rfl) (by simp) ?_
      refine AllReadyH.cons rfl (fun K hK => ?_) AllReadyH.nil
      go_simp
      (go_at_call 26; ((with_reducible refine (hA _ hHeld.2.2.2.2.2.2.2.2.2.2.2.2.2.2.2.2.2.2.2.2.2.2.2.2.2.2).mono ?_); rintro e Y ⟨rfl, hbY⟩))
      refine hK.out _ _ ?_ (fun hNext => ?_)
      · exact ⟨pkc hbY hHeld.1, pkc hbY hHeld.2.1, pkc hbY hHeld.2.2.1, pkc hbY hHeld.2.2.2.1, pkc hbY hHeld.2.2.2.2.1, pkc hbY hHeld.2.2.2.2.2.1, pkc hbY hHeld.2.2.2.2.2.2.1, pkc hbY hHeld.2.2.2.2.2.2.2.1, pkc hbY hHeld.2.2.2.2.2.2.2.2.1, pkc hbY hHeld.2.2.2.2.2.2.2.2.2.1, pkc hbY hHeld.2.2.2.2.2.2.2.2.2.2.1, pkc hbY hHeld.2.2.2.2.2.2.2.2.2.2.2.1, pkc hbY hHeld.2.2.2.2.2.2.2.2.2.2.2.2.1, pkc hbY hHeld.2.2.2.2.2.2.2.2.2.2.2.2.2.1, pkc hbY hHeld.2.2.2.2.2.2.2.2.2.2.2.2.2.2.1, pkc hbY hHeld.2.2.2.2.2.2.2.2.2.2.2.2.2.2.2.1, pkc hbY hHeld.2.2.2.2.2.2.2.2.2.2.2.2.2.2.2.2.1, pkc hbY hHeld.2.2.2.2.2.2.2.2.2.2.2.2.2.2.2.2.2.1, pkc hbY hHeld.2.2.2.2.2.2.2.2.2.2.2.2.2.2.2.2.2.2.1, pkc hbY hHeld.2.2.2.2.2.2.2.2.2.2.2.2.2.2.2.2.2.2.2.1, pkc hbY hHeld.2.2.2.2.2.2.2.2.2.2.2.2.2.2.2.2.2.2.2.2.1, pkc hbY hHeld.2.2.2.2.2.2.2.2.2.2.2.2.2.2.2.2.2.2.2.2.2.1, pkc hbY hHeld.2.2.2.2.2.2.2.2.2.2.2.2.2.2.2.2.2.2.2.2.2.2.1, pkc hbY hHeld.2.2.2.2.2.2.2.2.2.2.2.2.2.2.2.2.2.2.2.2.2.2.2.1, pkc hbY hHeld.2.2.2.2.2.2.2.2.2.2.2.2.2.2.2.2.2.2.2.2.2.2.2.2.1, pkc hbY hHeld.2.2.2.2.2.2.2.2.2.2.2.2.2.2.2.2.2.2.2.2.2.2.2.2.2.1, pb2 hHeld.2.2.2.2.2.2.2.2.2.2.2.2.2.2.2.2.2.2.2.2.2.2.2.2.2.2 hbY⟩
      clear hbY
      clear hK K hHeld
      have hHeld := hNext
      clear hNext
      try simp only [List.getElem_toArray, List.getElem_cons_succ, List.getElem_cons_zero, Act.put, List.setIfInBounds_toArray, List.set_cons_zero, List.set_cons_succ]
      refine tkO 11 ?_ rfl (by kernel_rfl) (fun _ _ _ h => h) ⟨by rfl, ?_⟩ hHeld ?_; rotate_left
      · intro wS hSw; (try dsimp only at hSw); (try go_split_ands); go_simp; try with_reducible rfl
      try simp only [List.getElem_toArray, List.getElem_cons_succ, List.getElem_cons_zero, Act.put, List.setIfInBounds_toArray, List.set_cons_zero, List.set_cons_succ]
      refine tkO 12 ?_ rfl (by kernel_rfl) (fun _ _ _ h => h) ⟨by rfl, ?_⟩ hHeld ?_; rotate_left
      · intro wS hSw; (try dsimp only at hSw); (try go_split_ands); go_simp; try with_reducible rfl
      try simp only [List.getElem_toArray, List.getElem_cons_succ, List.getElem_cons_zero, Act.put, List.setIfInBounds_toArray, List.set_cons_zero, List.set_cons_succ]
      refine wpAnyH_done (by kernel_rfl) ?_ _
      have HBZ := Lib.hid (pb2 HB8.out hHeld.2.2.2.2.2.2.2.2.2.2.2.2.2.2.2.2.2.2.2.2.2.2.2.2.2.2)
      clear hHeld
      go_wp2_with (fail)
      go_ret
      exact ⟨by simp, HBZ.out⟩

set_option maxRecDepth 100000 in
theorem lifted (os : Os) (started : os.Started) (H : Type) (enc : TypeId × Value → H) :
    ReturnsInHanded {} Try.checked os 7 .any (Rows.orderSwapsSpec.pre6 enc Try.prog Try.f7 Rows.orderSwapsRow.domain false) (Rows.orderSwapsSpec.post enc Try.prog Try.f7 false true false false) := by
  refine returnsInHanded_of_change_sized (C := Try.checked) own started (by kernel_rfl) Try.func7
    (ChangeSpec.witness6 (enc := enc) (C := Try.checked) false ⟨#[], #[.slice none 0 0, .slice none 0 0, .slice none 0 0, .int .i64 0], []⟩ 8 (by kernel_rfl) (by kernel_rfl) (by kernel_rfl) (by kernel_rfl)) ?_
  intro W base args ds gs before hval0 hW hcnd hsz _
  have hval : ∀ (j : Nat) t v, Try.f7.params[j]? = some t → args[j]? = some v → Value.okWide Try.prog W .any base t v := hval0
  have hW' := hW
  obtain ⟨p, q, hA0, hV, rfl, hfz, hnd⟩ := hW
  have hA : DataW.TrodAll enc Try.prog W 0 (fun _ => true) true Try.f7.params.toList args.toList ds p := hA0
  rw [Try.params7] at hA hval
  obtain ⟨v0, vs0, d0, ds0, p0, q0, hargs, rfl, rfl, h0, r0⟩ := trodAll_cons hA
  obtain ⟨v1, vs1, d1, ds1, p1, q1, rfl, rfl, rfl, h1, r1⟩ := trodAll_cons r0
  obtain ⟨v2, vs2, d2, ds2, p2, q2, rfl, rfl, rfl, h2, r2⟩ := trodAll_cons r1
  obtain ⟨v3, vs3, d3, ds3, p3, q3, rfl, rfl, rfl, h3, r3⟩ := trodAll_cons r2
  obtain ⟨rfl, rfl, rfl⟩ := trodAll_nil r3
  obtain rfl : args = #[v0, v1, v2, v3] := by cases args; simp_all
  obtain ⟨rfl, rfl⟩ := trodVars_none hV
  have k0 := h0
  have lt0 : ∀ x ∈ p0, x.block < W.heap.size := by obtain ⟨m, hm⟩ := k0; exact DataW.trod_lt m _ _ _ hm
  obtain ⟨b0, l0, c0, rfl⟩ := okWide_slice Try.underlying42 (hval 0 42 v0 rfl rfl)
  obtain ⟨a0, cap0, z0, e0, w0⟩ := open_pairs (enc := enc) (w := W) (v := .slice b0 l0 c0) (fuel := h0.choose) (by simpa [Value.cells] using h0.choose_spec)
  rw [e0] at hval k0 h0 hW' hval0 hA0
  have k1 := h1
  have lt1 : ∀ x ∈ p1, x.block < W.heap.size := by obtain ⟨m, hm⟩ := k1; exact DataW.trod_lt m _ _ _ hm
  obtain ⟨b1, l1, c1, rfl⟩ := okWide_slice Try.underlying52 (hval 1 52 v1 rfl rfl)
  obtain ⟨a1, cap1, z1, e1, w1, s1⟩ := open_events (enc := enc) (w := W) (v := .slice b1 l1 c1) (fuel := h1.choose) (by simpa [Value.cells] using h1.choose_spec) (fun n hn => by simpa using List.all_eq_true.1 hsz n (DataW.weights_mem_each (j := 1) rfl rfl n hn))
  rw [e1] at hval k1 h1 hW' hval0 hA0
  have k2 := h2
  have lt2 : ∀ x ∈ p2, x.block < W.heap.size := by obtain ⟨m, hm⟩ := k2; exact DataW.trod_lt m _ _ _ hm
  obtain ⟨b2, l2, c2, rfl⟩ := okWide_slice Try.underlying37 (hval 2 37 v2 rfl rfl)
  obtain ⟨a2, cap2, z2, e2, w2⟩ := open_ri (enc := enc) (w := W) (v := .slice b2 l2 c2) (fuel := h2.choose) (by simpa [Value.cells] using h2.choose_spec)
  rw [e2] at hval k2 h2 hW' hval0 hA0
  have k3 := h3
  have lt3 : ∀ x ∈ p3, x.block < W.heap.size := by obtain ⟨m, hm⟩ := k3; exact DataW.trod_lt m _ _ _ hm
  obtain ⟨a3, rfl, rfl, rfl, w3⟩ := open_int Try.underlying3 (hval 3 3 v3 rfl rfl) h3
  clear hA0 hval0
  rw [e0]; rw [e1]; rw [e2]; refine (walk a0 cap0 z0 a1 cap1 z1 a2 cap2 z2 a3 W w0 w1 s1 w2 w3).mono fun e W' ⟨he, bel⟩ => ?_
  subst he
  exact ⟨_, rfl, _, _, _, [], _, [], hW', trodAll_mk1 (shut_bool Try.underlying4 _), (trodAll_cons_mk (Below.trod laidOut (by kernel_rfl) (of_decide_eq_true (by kernel_rfl)) k0 bel lt0) (trodAll_cons_mk (Below.trod laidOut (by kernel_rfl) (of_decide_eq_true (by kernel_rfl)) k1 bel lt1) (trodAll_cons_mk (Below.trod laidOut (by kernel_rfl) (of_decide_eq_true (by kernel_rfl)) k2 bel lt2) (trodAll_cons_mk (Below.trod laidOut (by kernel_rfl) (of_decide_eq_true (by kernel_rfl)) k3 bel lt3) trodAll_mk0)))), rfl, bel.frame _, fun h => by cases h⟩

theorem over : Rows.orderSwapsRow.holds Try.pinned (OpenSpec.ofChange Rows.orderSwapsSpec) :=
  OpenClaim.holds_of_wide 7 Try.f7 rfl rfl rfl rfl rfl rfl rfl ⟨rfl, rfl, rfl, rfl, rfl⟩ rfl rfl rfl rfl rfl (by kernel_rfl) Try.func7 (by kernel_rfl)
    (of_decide_eq_true (by kernel_rfl)) (by unfold Func.isWrapper; first | (rw [if_pos (by decide +kernel)]; kernel_rfl) | (rw [if_neg (by decide +kernel)]; exact ⟨rfl, rfl⟩))
    (fun os started H enc _ => lifted os started H enc)

theorem orderSwapsHolds : Rows.OrderSwapsSaid := over
#print axioms orderSwapsHolds
end Go.Proofs.Ytijepfabkalcoaa.orderSwaps
