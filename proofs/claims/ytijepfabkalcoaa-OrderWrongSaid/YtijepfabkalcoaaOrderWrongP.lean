/- An order that names a call twice, or one that is none, or lacks one that returned, is not right. No condition. -/
import Derived.Test.YtijepfabkalcoaaRows
import Derived.Test.YtijepfabkalcoaaOrI
import Derived.LoopTactic
import Derived.WalkKit
import Derived.ProofKit
import Derived.OpenShut
import Derived.ChangeOld
import Derived.Below
namespace Go.Proofs.Ytijepfabkalcoaa.orderWrong
open Go.ChangeShapes Go.WideShapes Go.ChangeAt Go.RowKit
set_option linter.all false

theorem own : ownKnob Try.prog.godebug = none := by kernel_rfl
theorem laidOut : laidOutB Try.prog = true := by kernel_rfl



set_option maxRecDepth 100000 in
set_option maxHeartbeats 51200000 in
theorem walk (a0 : Option Addr) (cap0 : Nat) (z0 : List Pr) (a1 : Option Addr) (cap1 : Nat) (z1 : List EvD) (a2 : Option Addr) (cap2 : Nat) (z2 : List Int) (a3 : Int) (a4 : Int) (w : World) (w0 : Prs w a0 cap0 z0) (w1 : Es w a1 cap1 z1) (s1 : MidE z1) (w2 : RI w a2 cap2 z2) (w3 : (Lit.int .i64 a3).wf = true) (w4 : (Lit.int .i64 a4).wf = true) :
    Calls Try.prog 9 #[.slice a0 z0.length cap0, .slice a1 z1.length cap1, .slice a2 z2.length cap2, .int .i64 a3, .int .i64 a4] w fun e w' => e = .returned (.bool true) ∧ Below w.heap.size w w' := by
  have hlg := light_anyE a1 cap1 z1 w w1 s1
  have ca := fun W (hb : Below w.heap.size w W) => owake_any W
  have hz1 := w0.1
  have hz2 := w0.2.1
  have hz3 := w1.1
  have hz4 := w1.2.1
  have hz5 := w2.1
  have hz6 := w2.2.1
  unfold maxLen at hz2 hz4 hz6
  by_cases hL : LgtE z1
  rotate_left
  · have cl := hlg 1 (fun h => absurd h hL) (fun _ => rfl)
    clear hlg hL
    go_enter Try.func9, Try.ntmps9
    go_wp2_with (first
      | (go_at_call 20; ((with_reducible refine cl.mono ?_); clear cl; rintro e v1 ⟨rfl, hb1⟩; have HB1 := Lib.hid hb1; clear hb1))
      | (go_at_call 26; ((with_reducible refine (ca _ HB1.out).mono ?_); clear ca; rintro e wa ⟨rfl, hba⟩; have HBa := Lib.hid (pb2 HB1.out hba); clear hba))
      | fail)
    go_ret
    exact ⟨by simp, HBa.out⟩
  have cl := hlg 0 (fun _ => rfl) (fun h => absurd hL h)
  have hN3 : z1.length ≤ 200 := hL.1
  have hps : ∀ e ∈ z1, e.a.ps.length ≤ 1100000 := fun e he => Nat.le_trans (hL.ps e he) (by decide)
  clear hlg hL
  by_cases hA1 : z0.length ≤ 60
  rotate_left
  · have h3 : (60 : Int) < (z0.length : Int) := by omega
    clear hA1
    go_enter Try.func9, Try.ntmps9
    go_wp2_with (first
      | (go_at_call 20; ((with_reducible refine cl.mono ?_); clear cl; rintro e v1 ⟨rfl, hb1⟩; have HB1 := Lib.hid hb1; clear hb1))
      | (go_at_call 26; ((with_reducible refine (ca _ HB1.out).mono ?_); clear ca; rintro e wa ⟨rfl, hba⟩; have HBa := Lib.hid (pb2 HB1.out hba); clear hba))
      | fail)
    go_ret
    exact ⟨by simp, HBa.out⟩
  have h3 : ¬ (60 : Int) < (z0.length : Int) := by omega
  by_cases hA3 : 1 ≤ z2.length
  rotate_left
  · have h5 : (z2.length : Int) < 1 := by omega
    clear hA3
    go_enter Try.func9, Try.ntmps9
    go_wp2_with (first
      | (go_at_call 20; ((with_reducible refine cl.mono ?_); clear cl; rintro e v1 ⟨rfl, hb1⟩; have HB1 := Lib.hid hb1; clear hb1))
      | (go_at_call 26; ((with_reducible refine (ca _ HB1.out).mono ?_); clear ca; rintro e wa ⟨rfl, hba⟩; have HBa := Lib.hid (pb2 HB1.out hba); clear hba))
      | fail)
    go_ret
    exact ⟨by simp, HBa.out⟩
  have h5 : ¬ (z2.length : Int) < 1 := by omega
  by_cases hA2 : z2.length ≤ 150
  rotate_left
  · have h4 : (150 : Int) < (z2.length : Int) := by omega
    clear hA2
    go_enter Try.func9, Try.ntmps9
    go_wp2_with (first
      | (go_at_call 20; ((with_reducible refine cl.mono ?_); clear cl; rintro e v1 ⟨rfl, hb1⟩; have HB1 := Lib.hid hb1; clear hb1))
      | (go_at_call 26; ((with_reducible refine (ca _ HB1.out).mono ?_); clear ca; rintro e wa ⟨rfl, hba⟩; have HBa := Lib.hid (pb2 HB1.out hba); clear hba))
      | fail)
    go_ret
    exact ⟨by simp, HBa.out⟩
  have h4 : ¬ (150 : Int) < (z2.length : Int) := by omega
  have cR0 := fun a' c' l' W (hb : Below w.heap.size w W) h1 h2 B hB => oright_any a0 a1 a' cap0 cap1 c' z0 z1 l' W (w0.below hb) (w1.keep hb) h1 (by omega) (by omega) hps h2 B hB
  by_cases hord : ordR z0 z1 z2
  rotate_left
  · have cR := fun W hb => cR0 a2 cap2 z2 W hb (w2.below hb) (by omega) false (by simp [hord])
    clear cR0
    go_enter Try.func9, Try.ntmps9
    go_wp2_with (first
      | (go_at_call 20; ((with_reducible refine cl.mono ?_); clear cl; rintro e v1 ⟨rfl, hb1⟩; have HB1 := Lib.hid hb1; clear hb1))
      | (go_at_call 29; ((with_reducible refine (cR _ HB1.out).mono ?_); clear cR; rintro e v2 ⟨rfl, hb2⟩; have HB2 := Lib.hid (pb2 HB1.out hb2); clear hb2))
      | (go_at_call 26; ((with_reducible refine (ca _ HB2.out).mono ?_); clear ca; rintro e wa ⟨rfl, hba⟩; have HBa := Lib.hid (pb2 HB2.out hba); clear hba))
      | fail)
    go_ret
    exact ⟨by simp, HBa.out⟩
  have cR := fun W hb => cR0 a2 cap2 z2 W hb (w2.below hb) (by omega) true (by simp [hord])
  obtain ⟨hs, s, hm, -⟩ := id hord
  have cH := fun W (hb : Below w.heap.size w W) => rmaypast_any a1 cap1 z1 W (w1.keep hb) (by omega)
  rw [hm] at cH
  simp only [Option.isSome_some] at cH
  have hrg := (ordR_is hs hm).1 hord
  have hno := fun l' (h : ¬ Nms s.l l') => (show ¬ ordR z0 z1 l' from fun x => h ((ordR_is hs hm).1 x).nm)
  have I := minv z1 _ s hm
  have hLN : s.l.length ≤ 200 := by have h1 := I.nb; have h2 := (cnt_le z1 z1.length).1; omega
  have cC := fun W (hb : Below w.heap.size w W) => rcalls_any a1 cap1 z1 W (w1.keep hb) (by omega) s.l (by unfold callsL; rw [hm])
  obtain ⟨L, hLL⟩ : ∃ L, s.l = L := ⟨_, rfl⟩
  rw [hLL] at hrg hno hLN cC
  obtain ⟨k, hk, hum⟩ := umodR a3 (z2.length : Int) (by omega) (by omega)
  obtain ⟨q, hq, hum9⟩ := umodR a4 9 (by decide) (by decide)
  have hkl : k < z2.length := by omega
  obtain ⟨x, hx⟩ : ∃ x, z2[k]? = some x := ⟨_, List.getElem?_eq_getElem hkl⟩
  have hxm := List.mem_of_getElem? hx
  have hir := hrg.nm.inr x hxm
  have hxg : z2.getD k 0 = x := by rw [List.getD_eq_getElem?_getD, hx]; rfl
  obtain ⟨j, rfl⟩ : ∃ j : Nat, x = (j : Int) := ⟨x.toNat, by have := hir.1; omega⟩
  obtain ⟨bi, oi, rfl, -⟩ := ri_at w2 hx
  have hj0 : (0 : Int) ≤ (j : Int) := Int.natCast_nonneg j
  have hjl : (j : Int) < (L.length : Int) := hir.2
  have hjn : ¬ L.length ≤ j := by omega
  have hcm := cAt_mem hir
  rw [Int.toNat_natCast] at hcm
  have n1 := hno (z2 ++ [(j : Int)]) (nms_twice hxm)
  have n2 := hno (z2 ++ [((L.length : Int) + (q : Int))]) (nms_none (fun h => by have := h.2; omega))
  have n3 := fun hg => hno (z2.take k ++ z2.drop (k + 1)) (nms_less hrg.nm hkl (by rw [hxg]; exact hg))
  obtain ⟨c, hc⟩ : ∃ c, cAt L (j : Int) = c := ⟨_, rfl⟩
  rw [hc] at hcm n3
  have HW0 := Lib.hid w0
  have HW1 := Lib.hid w1
  have HW2 := Lib.hid w2
  have HX := Lib.hid hx
  have HCM := Lib.hid hcm
  have hl1 : (z2 ++ [(j : Int)]).length = z2.length + 1 := by rw [List.length_append, List.length_singleton]
  have hl2 : (z2 ++ [((L.length : Int) + (q : Int))]).length = z2.length + 1 := by rw [List.length_append, List.length_singleton]
  have hl3 : (z2.take k ++ z2.drop (k + 1)).length = z2.length - 1 := by rw [List.length_append, List.length_take, List.length_drop]; omega
  have cT1 := fun a' c' W hb h => cR0 a' c' (z2 ++ [(j : Int)]) W hb h (by omega) false (by simp [n1])
  have cT2 := fun a' c' W hb h => cR0 a' c' (z2 ++ [((L.length : Int) + (q : Int))]) W hb h (by omega) false (by simp [n2])
  have cT3 := fun (hg : 0 ≤ c.g) a' c' W hb h => cR0 a' c' (z2.take k ++ z2.drop (k + 1)) W hb h (by omega) false (by simp [n3 hg])
  rw [hl1] at cT1
  rw [hl2] at cT2
  rw [hl3] at cT3
  have HRS := Lib.hid (show ∀ W, Below w.heap.size w W → Source W (.slice (some ⟨bi, oi, none⟩) z2.length cap2) z2.length (cellsI z2) from fun W hb => src_ri (HW2.out.below hb) (fun e => by cases e))
  have HL1 := Lib.hid (show ([] : List Int).length + z2.length ≤ 100000000000 by simp; omega)
  have HL2 := Lib.hid (show ([] : List Int).length + z2.length = z2.length by simp)
  have HL3 := Lib.hid (show z2.length + 1 ≤ 100000000000 by omega)
  have HL4 := Lib.hid (show z2.length + [(j : Int)].length = z2.length + 1 from rfl)
  obtain ⟨htl, hrt⟩ := w2.take k (by omega)
  obtain ⟨aD, hdl, hrd, hor⟩ := w2.drop (k + 1) hkl
  have haD : (if cap2 = k + 1 then some (⟨bi, oi, none⟩ : Addr) else some ⟨bi, oi + (k + 1), none⟩) = aD := by
    rcases hor with ⟨h1, h2⟩ | ⟨h1, h2⟩
    · rw [if_pos h1, h2]
    · rw [if_neg h1, h2]
  have hDn : aD = none → cap2 - (k + 1) = 0 := fun e => by
    rcases hor with ⟨h1, h2⟩ | ⟨h1, h2⟩ <;> (rw [h2] at e; cases e)
  have HST := Lib.hid (show ∀ W, Below w.heap.size w W → Source W (.slice (some ⟨bi, oi, none⟩) k cap2) (z2.take k).length (cellsI (z2.take k)) from fun W hb => by
    have h := src_ri (hrt.below hb) (fun e => by cases e)
    rwa [htl] at h ⊢)
  have HSD := Lib.hid (show ∀ W, Below w.heap.size w W → Source W (.slice aD (z2.length - (k + 1)) (cap2 - (k + 1))) (z2.drop (k + 1)).length (cellsI (z2.drop (k + 1))) from fun W hb => by
    have h := src_ri (hrd.below hb) hDn
    rwa [hdl] at h ⊢)
  have HM1 := Lib.hid (show ([] : List Int).length + (z2.take k).length ≤ 100000000000 by rw [htl]; simp; omega)
  have HM2 := Lib.hid (show ([] : List Int).length + (z2.take k).length = k by rw [htl]; simp)
  have HM3 := Lib.hid (show (z2.take k).length + (z2.drop (k + 1)).length ≤ 100000000000 by rw [htl, hdl]; omega)
  have HM4 := Lib.hid (show (z2.take k).length + (z2.drop (k + 1)).length = z2.length - 1 by rw [htl, hdl]; omega)
  have HTL := Lib.hid htl
  have hk0 : (0 : Int) ≤ (k : Int) := Int.natCast_nonneg k
  have hkI : (k : Int) < (z2.length : Int) := by omega
  have hkc : (k : Int) ≤ (cap2 : Int) := by omega
  have hk1 : (0 : Int) ≤ (k : Int) + 1 := by omega
  have hk2 : (k : Int) + 1 ≤ (z2.length : Int) := by omega
  have hk3 : (k : Int) + 1 ≤ (cap2 : Int) := by omega
  have htn : ((k : Int) + 1).toNat = k + 1 := by omega
  have H9 := Lib.hid hum9
  have hq9 : q < 9 := by omega
  clear cR0 hord hs hm hrg hno I hps w0 w1 w2 s1 w3 w4 hx hxm hir hxg hcm n1 n2 n3 hl1 hl2 hl3 htl hrt hdl hrd hor hDn hum9 hk hq hc hLL
  go_enter Try.func9, Try.ntmps9
  go_wp2_with (first
    | (go_at_call 20; ((with_reducible refine cl.mono ?_); clear cl; rintro e v1 ⟨rfl, hb1⟩; have HB1 := Lib.hid hb1; clear hb1))
    | (go_at_call 29; ((with_reducible refine (cR _ HB1.out).mono ?_); clear cR; rintro e v2 ⟨rfl, hb2⟩; have HB2 := Lib.hid (pb2 HB1.out hb2); clear hb2))
    | (go_at_call 22; ((with_reducible refine (cH _ HB2.out).mono ?_); clear cH; rintro e v3 ⟨rfl, hb3⟩; have HB3 := Lib.hid (pb2 HB2.out hb3); clear hb3))
    | fail)
  rw [hum]
  clear hum HB1 HB2
  go_wp2_with (first
    | (go_at_call 33; ((with_reducible refine (cC _ HB3.out).mono ?_); clear cC; rintro e v4 ⟨ao4, cp4, rfl, hC4, hb4⟩; have HC4 := Lib.hid hC4; have HB4 := Lib.hid (pb2 HB3.out hb4); clear hb4 hC4))
    | fail)
  clear HB3
  have HRS0 := HRS
  clear HRS
  have HRS := Lib.hid (show ∀ W, Below v4.heap.size v4 W → Source W (.slice (some ⟨bi, oi, none⟩) z2.length cap2) z2.length (cellsI z2) from fun W hb => HRS0.out W (pb2 HB4.out hb))
  obtain ⟨b', o', e', hxc⟩ := ri_at (HW2.out.below HB4.out) HX.out
  cases e'
  have hw4 : IntKind.i64.wrap (k : Int) = (k : Int) := (wrapEqP _).trans (by unfold wrap64; omega)
  have HW4 := Lib.hid hw4
  go_cut [12] from 55 to 63 (fun v wx => ∃ (ao : Option Addr) (lc : Nat), v = .slice ao (z2.length + 1) lc ∧ RI wx ao lc (z2 ++ [(j : Int)]) ∧ Below v4.heap.size v4 wx)
  case first =>
    refine wp_region_held_drew (S := fun W => W.cell? ⟨bi, oi + k, none⟩ = some (.int .i64 (j : Int)) ∧ Below v4.heap.size v4 W) (by kernel_rfl) (by first | exact ⟨hxc, Below.refl _ _⟩ | exact ⟨hxc, (Below.refl _ _).drew⟩) (fun hHeld => ?_)
    have HD := Lib.hid hHeld.2
    generalize (World.drew v4 : World) = Wd at hHeld HD ⊢
    refine tkO 1 ?_ rfl (by kernel_rfl) (fun _ _ _ h => h) ⟨by rfl, ?_⟩ hHeld ?_; rotate_left
    · intro wS hSw; (try dsimp only at hSw); (try go_split_ands); go_simp; try with_reducible rfl
    try simp only [List.getElem_toArray, List.getElem_cons_succ, List.getElem_cons_zero, Act.put, List.setIfInBounds_toArray, List.set_cons_zero, List.set_cons_succ]
    refine tkO 3 ?_ rfl (by kernel_rfl) (fun _ _ _ h => h) ⟨by rfl, ?_⟩ hHeld ?_; rotate_left
    · intro wS hSw; (try dsimp only at hSw); (try go_split_ands); go_simp; try with_reducible rfl
    try simp only [List.getElem_toArray, List.getElem_cons_succ, List.getElem_cons_zero, Act.put, List.setIfInBounds_toArray, List.set_cons_zero, List.set_cons_succ]
    refine tkO 4 ?_ rfl (by kernel_rfl) (fun _ _ _ h => h) ⟨by rfl, ?_⟩ hHeld ?_; rotate_left
    · intro wS hSw; (try dsimp only at hSw); (try go_split_ands); go_simp; try with_reducible rfl
    try simp only [List.getElem_toArray, List.getElem_cons_succ, List.getElem_cons_zero, Act.put, List.setIfInBounds_toArray, List.set_cons_zero, List.set_cons_succ]
    refine tkO 5 ?_ rfl (by kernel_rfl) (fun _ _ _ h => h) ⟨by rfl, ?_⟩ hHeld ?_; rotate_left
    · intro wS hSw; (try dsimp only at hSw); (try go_split_ands); go_simp; try with_reducible rfl
    try simp only [List.getElem_toArray, List.getElem_cons_succ, List.getElem_cons_zero, Act.put, List.setIfInBounds_toArray, List.set_cons_zero, List.set_cons_succ]
    refine tkO 6 ?_ rfl (by kernel_rfl) (fun _ _ _ h => h) ⟨by rfl, ?_⟩ hHeld ?_; rotate_left
    · intro wS hSw; (try dsimp only at hSw); (try go_split_ands); go_simp; try with_reducible rfl
    try simp only [List.getElem_toArray, List.getElem_cons_succ, List.getElem_cons_zero, Act.put, List.setIfInBounds_toArray, List.set_cons_zero, List.set_cons_succ]
    clear hw4
    refine wpAnyH_ready (rs := [0, 7]) (by kernel_rfl) (by simp) ?_
    refine AllReadyH.cons rfl (fun K hK => ?_) (AllReadyH.cons rfl (fun K hK => ?_) AllReadyH.nil)
    · go_simp
      refine hK.out _ _ ?_ (fun hNext => ?_)
      · exact ⟨pkc (pb2 HD.out (pal _)) hxc, (pb2 HD.out (pal _))⟩
      clear hK K hHeld
      have hHeld := hNext
      clear hNext
      try simp only [List.getElem_toArray, List.getElem_cons_succ, List.getElem_cons_zero, Act.put, List.setIfInBounds_toArray, List.set_cons_zero, List.set_cons_succ]
      have T0 := Lib.hid (TN.a0 HD.out)
      replace HD := Lib.hid (pb2 HD.out (pal (.cells #[] 3)))
      have hgl : Wd.heap.size < (Wd.alloc (.cells #[] 3)).heap.size := by simp
      generalize Wd.alloc (.cells #[] 3) = Wa at *
      generalize Wd.heap.size = g0 at *
      refine wpAnyH_ready (rs := [2, 7]) (by kernel_rfl) (by simp) ?_
      refine AllReadyH.cons rfl (fun K hK => ?_) (AllReadyH.cons rfl (fun K hK => ?_) AllReadyH.nil)
      · refine step_tn rfl (.tmp 55) (.tmp 56) rfl v4 (.slice (some ⟨g0, 0, none⟩) 0 0) [] z2 rfl T0.out _ rfl (HRS.out _ HD.out) HL1.out z2.length HL2.out z2 rfl ?_
        intro ao1 lc1 Wb hm1 hc1 hT1 hO1
        have T1 := Lib.hid hT1
        clear hT1 hO1
        refine hK.out _ _ ?_ (fun hNext => ?_)
        · exact ⟨pkc T1.out.be hxc, T1.out.be⟩
        clear hK K hHeld
        have hHeld := hNext
        clear hNext
        try simp only [List.getElem_toArray, List.getElem_cons_succ, List.getElem_cons_zero, Act.put, List.setIfInBounds_toArray, List.set_cons_zero, List.set_cons_succ]
        refine wpAnyH_ready (rs := [7]) (by kernel_rfl) (by simp) ?_
        refine AllReadyH.cons rfl (fun K hK => ?_) AllReadyH.nil
        go_simp
        refine hK.out _ _ ?_ (fun hNext => ?_)
        · exact ⟨pkc (pb2 T1.out.be (pal _)) hxc, (pb2 T1.out.be (pal _))⟩
        clear hK K hHeld
        have hHeld := hNext
        clear hNext
        try simp only [List.getElem_toArray, List.getElem_cons_succ, List.getElem_cons_zero, Act.put, List.setIfInBounds_toArray, List.set_cons_zero, List.set_cons_succ]
        have B6 := Lib.hid (Bq.new Wb #[.int .i64 (j : Int)] 3)
        replace T1 := Lib.hid (T1.out.keep (pal (.cells #[.int .i64 (j : Int)] 3)))
        generalize Wb.alloc (.cells #[.int .i64 (j : Int)] 3) = Wc at *
        generalize Wb.heap.size = g6 at *
        refine wpAnyH_ready (rs := [8]) (by kernel_rfl) (by simp) ?_
        refine AllReadyH.cons rfl (fun K hK => ?_) AllReadyH.nil
        refine step_tn rfl (.tmp 57) (.tmp 62) rfl v4 (.slice ao1 z2.length lc1) z2 [(j : Int)] rfl T1.out _ rfl (src_i B6.out) HL3.out (z2.length + 1) HL4.out (z2 ++ [(j : Int)]) rfl ?_
        intro ao2 lc2 We hm2 hc2 hT2 hO2
        have T2 := Lib.hid hT2
        clear hT2 hO2
        refine hK.out _ _ ?_ (fun hNext => ?_)
        · exact ⟨pkc T2.out.be hxc, T2.out.be⟩
        clear hK K hHeld
        have hHeld := hNext
        clear hNext
        try simp only [List.getElem_toArray, List.getElem_cons_succ, List.getElem_cons_zero, Act.put, List.setIfInBounds_toArray, List.set_cons_zero, List.set_cons_succ]
        refine tkO 9 ?_ rfl (by kernel_rfl) (fun _ _ _ h => h) ⟨by rfl, ?_⟩ hHeld ?_; rotate_left
        · intro wS hSw; (try dsimp only at hSw); (try go_split_ands); go_simp; try with_reducible rfl
        try simp only [List.getElem_toArray, List.getElem_cons_succ, List.getElem_cons_zero, Act.put, List.setIfInBounds_toArray, List.set_cons_zero, List.set_cons_succ]
        refine wpAnyH_done (by kernel_rfl) ?_ _
        clear hHeld
        go_wp2_with (fail)
        go_meet
        exact ⟨ao2, lc2, rfl, T2.out.ri, T2.out.be⟩
      · go_simp
        refine hK.out _ _ ?_ (fun hNext => ?_)
        · exact ⟨pkc (pb2 HD.out (pal _)) hxc, (pb2 HD.out (pal _))⟩
        clear hK K hHeld
        have hHeld := hNext
        clear hNext
        try simp only [List.getElem_toArray, List.getElem_cons_succ, List.getElem_cons_zero, Act.put, List.setIfInBounds_toArray, List.set_cons_zero, List.set_cons_succ]
        have B6 := Lib.hid (Bq.new Wa #[.int .i64 (j : Int)] 3)
        have hne2 : ¬ g0 = Wa.heap.size := by omega
        replace T0 := Lib.hid (T0.out.keep (pal (.cells #[.int .i64 (j : Int)] 3)))
        replace HD := Lib.hid (pb2 HD.out (pal (.cells #[.int .i64 (j : Int)] 3)))
        generalize Wa.alloc (.cells #[.int .i64 (j : Int)] 3) = Wb at *
        generalize Wa.heap.size = g6 at *
        refine wpAnyH_ready (rs := [2]) (by kernel_rfl) (by simp) ?_
        refine AllReadyH.cons rfl (fun K hK => ?_) AllReadyH.nil
        refine step_tn rfl (.tmp 55) (.tmp 56) rfl v4 (.slice (some ⟨g0, 0, none⟩) 0 0) [] z2 rfl T0.out _ rfl (HRS.out _ HD.out) HL1.out z2.length HL2.out z2 rfl ?_
        intro ao1 lc1 Wc hm1 hc1 hT1 hO1
        have T1 := Lib.hid hT1
        replace B6 := Lib.hid (B6.out.only hO1 (fun x => hne2 (by simpa [Value.ownBlock] using x)))
        clear hT1 hO1
        refine hK.out _ _ ?_ (fun hNext => ?_)
        · exact ⟨pkc T1.out.be hxc, T1.out.be⟩
        clear hK K hHeld
        have hHeld := hNext
        clear hNext
        try simp only [List.getElem_toArray, List.getElem_cons_succ, List.getElem_cons_zero, Act.put, List.setIfInBounds_toArray, List.set_cons_zero, List.set_cons_succ]
        refine wpAnyH_ready (rs := [8]) (by kernel_rfl) (by simp) ?_
        refine AllReadyH.cons rfl (fun K hK => ?_) AllReadyH.nil
        refine step_tn rfl (.tmp 57) (.tmp 62) rfl v4 (.slice ao1 z2.length lc1) z2 [(j : Int)] rfl T1.out _ rfl (src_i B6.out) HL3.out (z2.length + 1) HL4.out (z2 ++ [(j : Int)]) rfl ?_
        intro ao2 lc2 We hm2 hc2 hT2 hO2
        have T2 := Lib.hid hT2
        clear hT2 hO2
        refine hK.out _ _ ?_ (fun hNext => ?_)
        · exact ⟨pkc T2.out.be hxc, T2.out.be⟩
        clear hK K hHeld
        have hHeld := hNext
        clear hNext
        try simp only [List.getElem_toArray, List.getElem_cons_succ, List.getElem_cons_zero, Act.put, List.setIfInBounds_toArray, List.set_cons_zero, List.set_cons_succ]
        refine tkO 9 ?_ rfl (by kernel_rfl) (fun _ _ _ h => h) ⟨by rfl, ?_⟩ hHeld ?_; rotate_left
        · intro wS hSw; (try dsimp only at hSw); (try go_split_ands); go_simp; try with_reducible rfl
        try simp only [List.getElem_toArray, List.getElem_cons_succ, List.getElem_cons_zero, Act.put, List.setIfInBounds_toArray, List.set_cons_zero, List.set_cons_succ]
        refine wpAnyH_done (by kernel_rfl) ?_ _
        clear hHeld
        go_wp2_with (fail)
        go_meet
        exact ⟨ao2, lc2, rfl, T2.out.ri, T2.out.be⟩
    · go_simp
      refine hK.out _ _ ?_ (fun hNext => ?_)
      · exact ⟨pkc (pb2 HD.out (pal _)) hxc, (pb2 HD.out (pal _))⟩
      clear hK K hHeld
      have hHeld := hNext
      clear hNext
      try simp only [List.getElem_toArray, List.getElem_cons_succ, List.getElem_cons_zero, Act.put, List.setIfInBounds_toArray, List.set_cons_zero, List.set_cons_succ]
      have B6 := Lib.hid (Bq.new Wd #[.int .i64 (j : Int)] 3)
      replace HD := Lib.hid (pb2 HD.out (pal (.cells #[.int .i64 (j : Int)] 3)))
      generalize Wd.alloc (.cells #[.int .i64 (j : Int)] 3) = Wa at *
      generalize Wd.heap.size = g6 at *
      refine wpAnyH_ready (rs := [0]) (by kernel_rfl) (by simp) ?_
      refine AllReadyH.cons rfl (fun K hK => ?_) AllReadyH.nil
      go_simp
      refine hK.out _ _ ?_ (fun hNext => ?_)
      · exact ⟨pkc (pb2 HD.out (pal _)) hxc, (pb2 HD.out (pal _))⟩
      clear hK K hHeld
      have hHeld := hNext
      clear hNext
      try simp only [List.getElem_toArray, List.getElem_cons_succ, List.getElem_cons_zero, Act.put, List.setIfInBounds_toArray, List.set_cons_zero, List.set_cons_succ]
      have T0 := Lib.hid (TN.a0 HD.out)
      have hne := B6.out.lt
      have hne2 : ¬ Wa.heap.size = g6 := by omega
      clear hne
      replace B6 := Lib.hid (B6.out.keep (pal (.cells #[] 3)))
      replace HD := Lib.hid (pb2 HD.out (pal (.cells #[] 3)))
      have hgl : Wa.heap.size < (Wa.alloc (.cells #[] 3)).heap.size := by simp
      generalize Wa.alloc (.cells #[] 3) = Wb at *
      generalize Wa.heap.size = g0 at *
      refine wpAnyH_ready (rs := [2]) (by kernel_rfl) (by simp) ?_
      refine AllReadyH.cons rfl (fun K hK => ?_) AllReadyH.nil
      refine step_tn rfl (.tmp 55) (.tmp 56) rfl v4 (.slice (some ⟨g0, 0, none⟩) 0 0) [] z2 rfl T0.out _ rfl (HRS.out _ HD.out) HL1.out z2.length HL2.out z2 rfl ?_
      intro ao1 lc1 Wc hm1 hc1 hT1 hO1
      have T1 := Lib.hid hT1
      replace B6 := Lib.hid (B6.out.only hO1 (fun x => hne2 (by simpa [Value.ownBlock] using x)))
      clear hT1 hO1
      refine hK.out _ _ ?_ (fun hNext => ?_)
      · exact ⟨pkc T1.out.be hxc, T1.out.be⟩
      clear hK K hHeld
      have hHeld := hNext
      clear hNext
      try simp only [List.getElem_toArray, List.getElem_cons_succ, List.getElem_cons_zero, Act.put, List.setIfInBounds_toArray, List.set_cons_zero, List.set_cons_succ]
      refine wpAnyH_ready (rs := [8]) (by kernel_rfl) (by simp) ?_
      refine AllReadyH.cons rfl (fun K hK => ?_) AllReadyH.nil
      refine step_tn rfl (.tmp 57) (.tmp 62) rfl v4 (.slice ao1 z2.length lc1) z2 [(j : Int)] rfl T1.out _ rfl (src_i B6.out) HL3.out (z2.length + 1) HL4.out (z2 ++ [(j : Int)]) rfl ?_
      intro ao2 lc2 We hm2 hc2 hT2 hO2
      have T2 := Lib.hid hT2
      clear hT2 hO2
      refine hK.out _ _ ?_ (fun hNext => ?_)
      · exact ⟨pkc T2.out.be hxc, T2.out.be⟩
      clear hK K hHeld
      have hHeld := hNext
      clear hNext
      try simp only [List.getElem_toArray, List.getElem_cons_succ, List.getElem_cons_zero, Act.put, List.setIfInBounds_toArray, List.set_cons_zero, List.set_cons_succ]
      refine tkO 9 ?_ rfl (by kernel_rfl) (fun _ _ _ h => h) ⟨by rfl, ?_⟩ hHeld ?_; rotate_left
      · intro wS hSw; (try dsimp only at hSw); (try go_split_ands); go_simp; try with_reducible rfl
      try simp only [List.getElem_toArray, List.getElem_cons_succ, List.getElem_cons_zero, Act.put, List.setIfInBounds_toArray, List.set_cons_zero, List.set_cons_succ]
      refine wpAnyH_done (by kernel_rfl) ?_ _
      clear hHeld
      go_wp2_with (fail)
      go_meet
      exact ⟨ao2, lc2, rfl, T2.out.ri, T2.out.be⟩
  case rest =>
    clear hw4
    obtain ⟨au, lu, rfl, hRu, hBu⟩ := hcut
    have HR5 := Lib.hid hRu
    have HC5 := Lib.hid hBu
    have HB5 := Lib.hid (pb2 HB4.out hBu)
    have hu1 := hRu.1
    have hu2 := hRu.2.1
    unfold maxLen at hu2
    have hLq : wrap64 ((L.length : Int) + (q : Int)) = (L.length : Int) + (q : Int) := by unfold wrap64; omega
    have hum9 := H9.out
    rw [List.length_append, List.length_singleton] at hu1
    clear hRu hBu hxc HRS
    go_wp2_with (first
      | (at_builtin; refine wpList_tn rfl (.tmp 64) (.tmp 65) rfl wc (.slice (some ⟨wc.heap.size, 0, none⟩) 0 0) [] z2 rfl (TN.a0 (Below.refl _ _)) _ rfl (HRS0.out _ (pb1 HB5.out _)) HL1.out z2.length HL2.out z2 rfl ?_; intro ao6 cp6 v6 hm6 hc6 hT6 hO6; have HT6 := Lib.hid hT6; clear hT6 hO6; unfold maxLen at hm6)
      | (at_builtin; refine wpList_tn rfl (.tmp 66) (.tmp 74) rfl wc (.slice ao6 z2.length cp6) z2 [((L.length : Int) + (q : Int))] rfl (HT6.out.keep (pal _)) _ rfl (src_one _) HL3.out (z2.length + 1) HL4.out (z2 ++ [((L.length : Int) + (q : Int))]) rfl ?_; intro ao7 cp7 v7 hm7 hc7 hT7 hO7; have HT7 := Lib.hid hT7; clear hT7 hO7; unfold maxLen at hm7)
      | fail)
    clear hum9 hLq
    have HR7 := Lib.hid HT7.out.ri
    have HC7 := Lib.hid HT7.out.be
    clear HT6 HT7
    have hw4 := HW4.out
    have hw5 : IntKind.i64.wrap ((k : Int) + 1) = (k : Int) + 1 := (wrapEqP _).trans (by unfold wrap64; omega)
    go_cut [14] from 76 to 85 (fun v wx => ∃ (ao : Option Addr) (lc : Nat), v = .slice ao (z2.length - 1) lc ∧ RI wx ao lc (z2.take k ++ z2.drop (k + 1)) ∧ Below v7.heap.size v7 wx)
    case first =>
      refine wp_region_held_drew (S := fun W => Below v7.heap.size v7 W) (by kernel_rfl) (by first | exact Below.refl _ _ | exact (Below.refl _ _).drew) (fun hHeld => ?_)
      have HD := Lib.hid hHeld
      generalize (World.drew v7 : World) = Wd at hHeld HD ⊢
      refine tkO 1 ?_ rfl (by kernel_rfl) (fun _ _ _ h => h) ⟨by rfl, ?_⟩ hHeld ?_; rotate_left
      · intro wS hSw; (try dsimp only at hSw); (try go_split_ands); go_simp; try with_reducible rfl
      try simp only [List.getElem_toArray, List.getElem_cons_succ, List.getElem_cons_zero, Act.put, List.setIfInBounds_toArray, List.set_cons_zero, List.set_cons_succ]
      refine tkO 2 ?_ rfl (by kernel_rfl) (fun _ _ _ h => h) ⟨by rfl, ?_⟩ hHeld ?_; rotate_left
      · intro wS hSw; (try dsimp only at hSw); (try go_split_ands); go_simp; try with_reducible rfl
      try simp only [List.getElem_toArray, List.getElem_cons_succ, List.getElem_cons_zero, Act.put, List.setIfInBounds_toArray, List.set_cons_zero, List.set_cons_succ]
      refine tkO 3 ?_ rfl (by kernel_rfl) (fun _ _ _ h => h) ⟨by rfl, ?_⟩ hHeld ?_; rotate_left
      · intro wS hSw; (try dsimp only at hSw); (try go_split_ands); go_simp; try with_reducible rfl
      try simp only [List.getElem_toArray, List.getElem_cons_succ, List.getElem_cons_zero, Act.put, List.setIfInBounds_toArray, List.set_cons_zero, List.set_cons_succ]
      refine tkO 5 ?_ rfl (by kernel_rfl) (fun _ _ _ h => h) ⟨by rfl, ?_⟩ hHeld ?_; rotate_left
      · intro wS hSw; (try dsimp only at hSw); (try go_split_ands); go_simp; try with_reducible rfl
      try simp only [List.getElem_toArray, List.getElem_cons_succ, List.getElem_cons_zero, Act.put, List.setIfInBounds_toArray, List.set_cons_zero, List.set_cons_succ]
      refine tkO 6 ?_ rfl (by kernel_rfl) (fun _ _ _ h => h) ⟨by rfl, ?_⟩ hHeld ?_; rotate_left
      · intro wS hSw; (try dsimp only at hSw); (try go_split_ands); go_simp; try with_reducible rfl
      try simp only [List.getElem_toArray, List.getElem_cons_succ, List.getElem_cons_zero, Act.put, List.setIfInBounds_toArray, List.set_cons_zero, List.set_cons_succ]
      refine tkO 7 ?_ rfl (by kernel_rfl) (fun _ _ _ h => h) ⟨by rfl, ?_⟩ hHeld ?_; rotate_left
      · intro wS hSw; (try dsimp only at hSw); (try go_split_ands); go_simp; try with_reducible rfl
      try simp only [List.getElem_toArray, List.getElem_cons_succ, List.getElem_cons_zero, Act.put, List.setIfInBounds_toArray, List.set_cons_zero, List.set_cons_succ]
      refine tkO 8 ?_ rfl (by kernel_rfl) (fun _ _ _ h => h) ⟨by rfl, ?_⟩ hHeld ?_; rotate_left
      · intro wS hSw; (try dsimp only at hSw); (try go_split_ands); go_simp; try with_reducible rfl
      try simp only [List.getElem_toArray, List.getElem_cons_succ, List.getElem_cons_zero, Act.put, List.setIfInBounds_toArray, List.set_cons_zero, List.set_cons_succ]
      clear hw4 hw5
      refine wpAnyH_ready (rs := [0]) (by kernel_rfl) (by simp) ?_
      refine AllReadyH.cons rfl (fun K hK => ?_) AllReadyH.nil
      go_simp
      refine hK.out _ _ ?_ (fun hNext => ?_)
      · exact (pb2 HD.out (pal _))
      clear hK K hHeld
      have hHeld := hNext
      clear hNext
      try simp only [List.getElem_toArray, List.getElem_cons_succ, List.getElem_cons_zero, Act.put, List.setIfInBounds_toArray, List.set_cons_zero, List.set_cons_succ]
      have T0 := Lib.hid (TN.a0 HD.out)
      replace HD := Lib.hid (pb2 HD.out (pal (.cells #[] 3)))
      generalize Wd.alloc (.cells #[] 3) = Wa at *
      generalize Wd.heap.size = g0 at *
      refine wpAnyH_ready (rs := [4]) (by kernel_rfl) (by simp) ?_
      refine AllReadyH.cons rfl (fun K hK => ?_) AllReadyH.nil
      refine step_tn rfl (.tmp 76) (.tmp 79) rfl v7 (.slice (some ⟨g0, 0, none⟩) 0 0) [] (z2.take k) rfl T0.out _ rfl (HST.out _ (pb2 (pb2 HB5.out HC7.out) HD.out)) HM1.out k HM2.out (z2.take k) rfl ?_
      intro ao1 lc1 Wb hm1 hc1 hT1 hO1
      have T1 := Lib.hid hT1
      clear hT1 hO1
      refine hK.out _ _ ?_ (fun hNext => ?_)
      · exact T1.out.be
      clear hK K hHeld
      have hHeld := hNext
      clear hNext
      try simp only [List.getElem_toArray, List.getElem_cons_succ, List.getElem_cons_zero, Act.put, List.setIfInBounds_toArray, List.set_cons_zero, List.set_cons_succ]
      have T2 := Lib.hid (show TN v7 Wb (.slice ao1 (z2.take k).length lc1) (z2.take k) by rw [HTL.out]; exact T1.out)
      refine wpAnyH_ready (rs := [9]) (by kernel_rfl) (by simp) ?_
      refine AllReadyH.cons rfl (fun K hK => ?_) AllReadyH.nil
      refine step_tn rfl (.tmp 80) (.tmp 84) rfl v7 (.slice ao1 k lc1) (z2.take k) (z2.drop (k + 1)) rfl T1.out _ rfl (HSD.out _ (pb2 (pb2 HB5.out HC7.out) T1.out.be)) HM3.out (z2.length - 1) HM4.out (z2.take k ++ z2.drop (k + 1)) rfl ?_
      intro ao2 lc2 Wc hm2 hc2 hT3 hO3
      have T3 := Lib.hid hT3
      clear hT3 hO3
      refine hK.out _ _ ?_ (fun hNext => ?_)
      · exact T3.out.be
      clear hK K hHeld
      have hHeld := hNext
      clear hNext
      try simp only [List.getElem_toArray, List.getElem_cons_succ, List.getElem_cons_zero, Act.put, List.setIfInBounds_toArray, List.set_cons_zero, List.set_cons_succ]
      refine tkO 10 ?_ rfl (by kernel_rfl) (fun _ _ _ h => h) ⟨by rfl, ?_⟩ hHeld ?_; rotate_left
      · intro wS hSw; (try dsimp only at hSw); (try go_split_ands); go_simp; try with_reducible rfl
      try simp only [List.getElem_toArray, List.getElem_cons_succ, List.getElem_cons_zero, Act.put, List.setIfInBounds_toArray, List.set_cons_zero, List.set_cons_succ]
      refine wpAnyH_done (by kernel_rfl) ?_ _
      clear hHeld
      go_wp2_with (fail)
      go_meet
      exact ⟨ao2, lc2, rfl, T3.out.ri, T3.out.be⟩
    case rest =>
      clear hw4 hw5
      obtain ⟨av', lv', rfl, hRv, hBv⟩ := hcut
      have HB8 := Lib.hid (pb2 (pb2 HB5.out HC7.out) hBv)
      have HR5b := Lib.hid (HR5.out.below (pb2 HC7.out hBv))
      have HR7b := Lib.hid (HR7.out.below hBv)
      have HR8 := Lib.hid hRv
      have hC4 := HC4.out.keep (pb2 HC5.out (pb2 HC7.out hBv))
      obtain ⟨bd, oo, pa, pc, rfl, hca⟩ := hC4.2.2 j _ HCM.out
      obtain ⟨-, -, c2, -⟩ := hca.ex
      obtain ⟨b', o', e', hxc⟩ := ri_at (HW2.out.below HB8.out) HX.out
      cases e'
      have hv1 := HC4.out.1
      have hv2 := HC4.out.2.1
      unfold maxLen at hv2
      clear hRv hBv hC4 hca HRS0 HST HSD
      generalize c.g = g at *
      by_cases hg : g < 0
      · go_wp2_with (first
          | (go_at_call 29; ((with_reducible refine (cT1 _ _ _ HB8.out HR5b.out).mono ?_); clear cT1; rintro e y9 ⟨rfl, hb9⟩; have HY9 := Lib.hid (pb2 HB8.out hb9); have HR7c := Lib.hid (HR7b.out.below hb9); have HR8a := Lib.hid (HR8.out.below hb9); have xx := pkc hb9 hxc; have cc := pkc hb9 c2; clear hxc c2; clear hb9))
          | (go_at_call 29; ((with_reducible refine (cT2 _ _ _ HY9.out HR7c.out).mono ?_); clear cT2; rintro e y10 ⟨rfl, hb10⟩; have HY10 := Lib.hid (pb2 HY9.out hb10); have HR8b := Lib.hid (HR8a.out.below hb10); have xx2 := pkc hb10 xx; have cc2 := pkc hb10 cc; clear xx cc; clear hb10))
          | (go_at_call 26; ((with_reducible refine (ca _ HY10.out).mono ?_); clear ca; rintro e wa ⟨rfl, hba⟩; have HBa := Lib.hid (pb2 HY10.out hba); clear hba))
          | fail)
        go_ret
        exact ⟨by simp, HBa.out⟩
      · have hg0 : (0 : Int) ≤ g := by omega
        have cT4 := cT3 hg0
        go_wp2_with (first
          | (go_at_call 29; ((with_reducible refine (cT1 _ _ _ HB8.out HR5b.out).mono ?_); clear cT1; rintro e y9 ⟨rfl, hb9⟩; have HY9 := Lib.hid (pb2 HB8.out hb9); have HR7c := Lib.hid (HR7b.out.below hb9); have HR8a := Lib.hid (HR8.out.below hb9); have xx := pkc hb9 hxc; have cc := pkc hb9 c2; clear hxc c2; clear hb9))
          | (go_at_call 29; ((with_reducible refine (cT2 _ _ _ HY9.out HR7c.out).mono ?_); clear cT2; rintro e y10 ⟨rfl, hb10⟩; have HY10 := Lib.hid (pb2 HY9.out hb10); have HR8b := Lib.hid (HR8a.out.below hb10); have xx2 := pkc hb10 xx; have cc2 := pkc hb10 cc; clear xx cc; clear hb10))
          | (go_at_call 29; ((with_reducible refine (cT4 _ _ _ HY10.out HR8b.out).mono ?_); clear cT4; rintro e y11 ⟨rfl, hb11⟩; have HY11 := Lib.hid (pb2 HY10.out hb11); clear hb11))
          | (go_at_call 26; ((with_reducible refine (ca _ HY11.out).mono ?_); clear ca; rintro e wa ⟨rfl, hba⟩; have HBa := Lib.hid (pb2 HY11.out hba); clear hba))
          | fail)
        go_ret
        exact ⟨by simp, HBa.out⟩

set_option maxRecDepth 100000 in
theorem lifted (os : Os) (started : os.Started) (H : Type) (enc : TypeId × Value → H) :
    ReturnsInHanded {} Try.checked os 9 .any (Rows.orderWrongSpec.pre6 enc Try.prog Try.f9 Rows.orderWrongRow.domain false) (Rows.orderWrongSpec.post enc Try.prog Try.f9 false true false false) := by
  refine returnsInHanded_of_change_sized (C := Try.checked) own started (by kernel_rfl) Try.func9
    (ChangeSpec.witness6 (enc := enc) (C := Try.checked) false ⟨#[], #[.slice none 0 0, .slice none 0 0, .slice none 0 0, .int .i64 0, .int .i64 0], []⟩ 8 (by kernel_rfl) (by kernel_rfl) (by kernel_rfl) (by kernel_rfl)) ?_
  intro W base args ds gs before hval0 hW hcnd hsz _
  have hval : ∀ (j : Nat) t v, Try.f9.params[j]? = some t → args[j]? = some v → Value.okWide Try.prog W .any base t v := hval0
  have hW' := hW
  obtain ⟨p, q, hA0, hV, rfl, hfz, hnd⟩ := hW
  have hA : DataW.TrodAll enc Try.prog W 0 (fun _ => true) true Try.f9.params.toList args.toList ds p := hA0
  rw [Try.params9] at hA hval
  obtain ⟨v0, vs0, d0, ds0, p0, q0, hargs, rfl, rfl, h0, r0⟩ := trodAll_cons hA
  obtain ⟨v1, vs1, d1, ds1, p1, q1, rfl, rfl, rfl, h1, r1⟩ := trodAll_cons r0
  obtain ⟨v2, vs2, d2, ds2, p2, q2, rfl, rfl, rfl, h2, r2⟩ := trodAll_cons r1
  obtain ⟨v3, vs3, d3, ds3, p3, q3, rfl, rfl, rfl, h3, r3⟩ := trodAll_cons r2
  obtain ⟨v4, vs4, d4, ds4, p4, q4, rfl, rfl, rfl, h4, r4⟩ := trodAll_cons r3
  obtain ⟨rfl, rfl, rfl⟩ := trodAll_nil r4
  obtain rfl : args = #[v0, v1, v2, v3, v4] := by cases args; simp_all
  obtain ⟨rfl, rfl⟩ := trodVars_none hV
  have k0 := h0
  have lt0 : ∀ x ∈ p0, x.block < W.heap.size := by obtain ⟨m, hm⟩ := k0; exact DataW.trod_lt m _ _ _ hm
  obtain ⟨b0, l0, c0, rfl⟩ := okWide_slice Try.underlying42 (hval 0 42 v0 rfl rfl)
  obtain ⟨a0, cap0, z0, e0, w0⟩ := open_pairs (enc := enc) (w := W) (v := .slice b0 l0 c0) (fuel := h0.choose) (by simpa [Value.cells] using h0.choose_spec)
  rw [e0] at hval k0 h0 hW' hval0 hA0
  have k1 := h1
  have lt1 : ∀ x ∈ p1, x.block < W.heap.size := by obtain ⟨m, hm⟩ := k1; exact DataW.trod_lt m _ _ _ hm
  obtain ⟨b1, l1, c1, rfl⟩ := okWide_slice Try.underlying52 (hval 1 52 v1 rfl rfl)
  obtain ⟨a1, cap1, z1, e1, w1, s1⟩ := open_events (enc := enc) (w := W) (v := .slice b1 l1 c1) (fuel := h1.choose) (by simpa [Value.cells] using h1.choose_spec) (fun n hn => by simpa using List.all_eq_true.1 hsz n (DataW.weights_mem_each (j := 1) rfl rfl n hn))
  rw [e1] at hval k1 h1 hW' hval0 hA0
  have k2 := h2
  have lt2 : ∀ x ∈ p2, x.block < W.heap.size := by obtain ⟨m, hm⟩ := k2; exact DataW.trod_lt m _ _ _ hm
  obtain ⟨b2, l2, c2, rfl⟩ := okWide_slice Try.underlying37 (hval 2 37 v2 rfl rfl)
  obtain ⟨a2, cap2, z2, e2, w2⟩ := open_ri (enc := enc) (w := W) (v := .slice b2 l2 c2) (fuel := h2.choose) (by simpa [Value.cells] using h2.choose_spec)
  rw [e2] at hval k2 h2 hW' hval0 hA0
  have k3 := h3
  have lt3 : ∀ x ∈ p3, x.block < W.heap.size := by obtain ⟨m, hm⟩ := k3; exact DataW.trod_lt m _ _ _ hm
  obtain ⟨a3, rfl, rfl, rfl, w3⟩ := open_int Try.underlying3 (hval 3 3 v3 rfl rfl) h3
  have k4 := h4
  have lt4 : ∀ x ∈ p4, x.block < W.heap.size := by obtain ⟨m, hm⟩ := k4; exact DataW.trod_lt m _ _ _ hm
  obtain ⟨a4, rfl, rfl, rfl, w4⟩ := open_int Try.underlying3 (hval 4 3 v4 rfl rfl) h4
  clear hA0 hval0
  rw [e0]; rw [e1]; rw [e2]; refine (walk a0 cap0 z0 a1 cap1 z1 a2 cap2 z2 a3 a4 W w0 w1 s1 w2 w3 w4).mono fun e W' ⟨he, bel⟩ => ?_
  subst he
  exact ⟨_, rfl, _, _, _, [], _, [], hW', trodAll_mk1 (shut_bool Try.underlying4 _), (trodAll_cons_mk (Below.trod laidOut (by kernel_rfl) (of_decide_eq_true (by kernel_rfl)) k0 bel lt0) (trodAll_cons_mk (Below.trod laidOut (by kernel_rfl) (of_decide_eq_true (by kernel_rfl)) k1 bel lt1) (trodAll_cons_mk (Below.trod laidOut (by kernel_rfl) (of_decide_eq_true (by kernel_rfl)) k2 bel lt2) (trodAll_cons_mk (Below.trod laidOut (by kernel_rfl) (of_decide_eq_true (by kernel_rfl)) k3 bel lt3) (trodAll_cons_mk (Below.trod laidOut (by kernel_rfl) (of_decide_eq_true (by kernel_rfl)) k4 bel lt4) trodAll_mk0))))), rfl, bel.frame _, fun h => by cases h⟩

theorem over : Rows.orderWrongRow.holds Try.pinned (OpenSpec.ofChange Rows.orderWrongSpec) :=
  OpenClaim.holds_of_wide 9 Try.f9 rfl rfl rfl rfl rfl rfl rfl ⟨rfl, rfl, rfl, rfl, rfl⟩ rfl rfl rfl rfl rfl (by kernel_rfl) Try.func9 (by kernel_rfl)
    (of_decide_eq_true (by kernel_rfl)) (by unfold Func.isWrapper; first | (rw [if_pos (by decide +kernel)]; kernel_rfl) | (rw [if_neg (by decide +kernel)]; exact ⟨rfl, rfl⟩))
    (fun os started H enc _ => lifted os started H enc)

theorem orderWrongHolds : Rows.OrderWrongSaid := over
#print axioms orderWrongHolds
end Go.Proofs.Ytijepfabkalcoaa.orderWrong
