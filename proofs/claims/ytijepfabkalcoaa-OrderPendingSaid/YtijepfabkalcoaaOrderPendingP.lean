/- With a call more that has not returned a right order is right still; with that call at its end too, and then it has done what it does. No condition. -/
import Derived.Test.YtijepfabkalcoaaRows
import Derived.Test.YtijepfabkalcoaaOrI
import Derived.LoopTactic
import Derived.WalkKit
import Derived.ProofKit
import Derived.OpenShut
import Derived.ChangeOld
import Derived.Below
namespace Go.Proofs.Ytijepfabkalcoaa.orderPending
open Go.ChangeShapes Go.WideShapes Go.ChangeAt Go.RowKit
set_option linter.all false

theorem own : ownKnob Try.prog.godebug = none := by kernel_rfl
theorem laidOut : laidOutB Try.prog = true := by kernel_rfl

/-- With a call more that has not returned. -/
theorem pend_up {m : List Pr} {N N2 : List EvD} {l : List Int} {s : Mt} {t : Int} {o : OpD} (h : ordR m N l) (hm : mtch N = some s) (h2 : mtch N2 = some (s.beg N.length ⟨t, false, o, zAd⟩)) :
    ordR m N2 l ∧ ordR m N2 (l ++ [(s.l.length : Int)]) ∧ endP m N2 (l ++ [(s.l.length : Int)]) = doP (endP m N l) o.c o.k o.v := by
  have hr := (ordR_is h.1 hm).1 h
  have hl : (s.beg N.length ⟨t, false, o, zAd⟩).l = s.l ++ [⟨t, (N.length : Int), -1, o, zAd⟩] := rfl
  refine ⟨⟨h.1, _, h2, ?_⟩, ⟨h.1, _, h2, ?_⟩, ?_⟩
  · rw [hl]; exact rgt_app hr (by show (-1 : Int) < 0; decide)
  · rw [hl]; exact rgt_snoc hr (by show (-1 : Int) < 0; decide)
  · unfold endP
    rw [h2, hm]
    dsimp only
    rw [hl, end_snoc hr.nm.inr]

set_option maxRecDepth 100000 in
set_option maxHeartbeats 51200000 in
theorem walk (a0 : Option Addr) (cap0 : Nat) (z0 : List Pr) (a1 : Option Addr) (cap1 : Nat) (z1 : List EvD) (o2 : OpD) (a3 : Int) (a4 : Option Addr) (cap4 : Nat) (z4 : List Int) (w : World) (w0 : Prs w a0 cap0 z0) (w1 : Es w a1 cap1 z1 ∧ (a1 = none → cap1 = 0)) (s1 : MidE z1) (w2 : o2.wf) (w3 : (Lit.int .i64 a3).wf = true) (w4 : RI w a4 cap4 z4 ∧ (a4 = none → cap4 = 0)) :
    Calls Try.prog 8 #[.slice a0 z0.length cap0, .slice a1 z1.length cap1, .agg #[.int .i64 o2.c, .int .i64 o2.k, .int .i64 o2.h, .int .i64 o2.v], .int .i64 a3, .slice a4 z4.length cap4] w fun e w' => e = .returned (.bool true) ∧ Below w.heap.size w w' := by
  obtain ⟨w1, w1z⟩ := w1
  obtain ⟨w4, w4z⟩ := w4
  have hb0 := pal (w := w) (.cells #[.int .i64 o2.c, .int .i64 o2.k, .int .i64 o2.h, .int .i64 o2.v] 28)
  have P0 := Lib.hid (Bq.new w #[.int .i64 o2.c, .int .i64 o2.k, .int .i64 o2.h, .int .i64 o2.v] 28)
  have HB0 := Lib.hid hb0
  have hlg := light_anyE a1 cap1 z1 (w.alloc (.cells #[.int .i64 o2.c, .int .i64 o2.k, .int .i64 o2.h, .int .i64 o2.v] 28)) (w1.keep hb0) s1
  have ca := fun W (hb : Below w.heap.size w W) => owake_any W
  have hz1 := w0.1
  have hz2 := w0.2.1
  have hz3 := w1.1
  have hz4 := w1.2.1
  have hz5 := w4.1
  have hz6 := w4.2.1
  unfold maxLen at hz2 hz4 hz6
  clear hb0
  by_cases hL : LgtE z1
  rotate_left
  · have cl := hlg 1 (fun h => absurd h hL) (fun _ => rfl)
    clear hlg hL
    go_enter Try.func8, Try.ntmps8
    go_wp2_with (first
      | (go_at_call 20; ((with_reducible refine cl.mono ?_); clear cl; rintro e v1 ⟨rfl, hb1⟩; have HB1 := Lib.hid (pb2 HB0.out hb1); have P1 := Lib.hid (P0.out.keep hb1); clear hb1))
      | (go_at_call 26; ((with_reducible refine (ca _ HB1.out).mono ?_); clear ca; rintro e wa ⟨rfl, hba⟩; have HBa := Lib.hid (pb2 HB1.out hba); clear hba))
      | fail)
    go_ret
    exact ⟨by simp, HBa.out⟩
  have cl := hlg 0 (fun _ => rfl) (fun h => absurd hL h)
  have hN3 : z1.length ≤ 200 := hL.1
  have hps : ∀ e ∈ z1, e.a.ps.length ≤ 1100000 := fun e he => Nat.le_trans (hL.ps e he) (by decide)
  clear hlg hL
  by_cases hA1 : z0.length ≤ 60
  rotate_left
  · have h3 : (60 : Int) < (z0.length : Int) := by omega
    clear hA1
    go_enter Try.func8, Try.ntmps8
    go_wp2_with (first
      | (go_at_call 20; ((with_reducible refine cl.mono ?_); clear cl; rintro e v1 ⟨rfl, hb1⟩; have HB1 := Lib.hid (pb2 HB0.out hb1); have P1 := Lib.hid (P0.out.keep hb1); clear hb1))
      | (go_at_call 26; ((with_reducible refine (ca _ HB1.out).mono ?_); clear ca; rintro e wa ⟨rfl, hba⟩; have HBa := Lib.hid (pb2 HB1.out hba); clear hba))
      | fail)
    go_ret
    exact ⟨by simp, HBa.out⟩
  have h3 : ¬ (60 : Int) < (z0.length : Int) := by omega
  by_cases hA2 : z4.length ≤ 150
  rotate_left
  · have h4 : (150 : Int) < (z4.length : Int) := by omega
    clear hA2
    go_enter Try.func8, Try.ntmps8
    go_wp2_with (first
      | (go_at_call 20; ((with_reducible refine cl.mono ?_); clear cl; rintro e v1 ⟨rfl, hb1⟩; have HB1 := Lib.hid (pb2 HB0.out hb1); have P1 := Lib.hid (P0.out.keep hb1); clear hb1))
      | (go_at_call 26; ((with_reducible refine (ca _ HB1.out).mono ?_); clear ca; rintro e wa ⟨rfl, hba⟩; have HBa := Lib.hid (pb2 HB1.out hba); clear hba))
      | fail)
    go_ret
    exact ⟨by simp, HBa.out⟩
  have h4 : ¬ (150 : Int) < (z4.length : Int) := by omega
  have cR0 := fun W (hb : Below w.heap.size w W) B hB => oright_any a0 a1 a4 cap0 cap1 cap4 z0 z1 z4 W (w0.below hb) (w1.keep hb) (w4.below hb) (by omega) (by omega) hps (by omega) B hB
  by_cases hord : ordR z0 z1 z4
  rotate_left
  · have cR := fun W hb => cR0 W hb false (by simp [hord])
    clear cR0
    go_enter Try.func8, Try.ntmps8
    go_wp2_with (first
      | (go_at_call 20; ((with_reducible refine cl.mono ?_); clear cl; rintro e v1 ⟨rfl, hb1⟩; have HB1 := Lib.hid (pb2 HB0.out hb1); have P1 := Lib.hid (P0.out.keep hb1); clear hb1))
      | (go_at_call 29; ((with_reducible refine (cR _ HB1.out).mono ?_); clear cR; rintro e v2 ⟨rfl, hb2⟩; have HB2 := Lib.hid (pb2 HB1.out hb2); have P2 := Lib.hid (P1.out.keep hb2); have x0 := P2.out.at_ 0 _ rfl; have x1 := P2.out.at_ 1 _ rfl; have x2 := P2.out.at_ 2 _ rfl; have x3 := P2.out.at_ 3 _ rfl; clear hb2))
      | (go_at_call 26; ((with_reducible refine (ca _ HB2.out).mono ?_); clear ca; rintro e wa ⟨rfl, hba⟩; have HBa := Lib.hid (pb2 HB2.out hba); clear hba))
      | fail)
    go_ret
    exact ⟨by simp, HBa.out⟩
  have cR := fun W hb => cR0 W hb true (by simp [hord])
  by_cases hok : okOp o2.c
  rotate_left
  · have cMo := fun W => rmayop_any o2.c o2.k o2.h o2.v W false (decide_eq_false hok)
    clear cR0 hord
    go_enter Try.func8, Try.ntmps8
    go_wp2_with (first
      | (go_at_call 20; ((with_reducible refine cl.mono ?_); clear cl; rintro e v1 ⟨rfl, hb1⟩; have HB1 := Lib.hid (pb2 HB0.out hb1); have P1 := Lib.hid (P0.out.keep hb1); clear hb1))
      | (go_at_call 29; ((with_reducible refine (cR _ HB1.out).mono ?_); clear cR; rintro e v2 ⟨rfl, hb2⟩; have HB2 := Lib.hid (pb2 HB1.out hb2); have P2 := Lib.hid (P1.out.keep hb2); have x0 := P2.out.at_ 0 _ rfl; have x1 := P2.out.at_ 1 _ rfl; have x2 := P2.out.at_ 2 _ rfl; have x3 := P2.out.at_ 3 _ rfl; clear hb2))
      | (go_at_call 13; ((with_reducible refine (cMo _).mono ?_); clear cMo; rintro e v3 ⟨rfl, hb3⟩; have HB3 := Lib.hid (pb2 HB2.out hb3); have P3 := Lib.hid (P2.out.keep hb3); clear hb3 x0 x1 x2 x3))
      | (go_at_call 26; ((with_reducible refine (ca _ HB3.out).mono ?_); clear ca; rintro e wa ⟨rfl, hba⟩; have HBa := Lib.hid (pb2 HB3.out hba); clear hba))
      | fail)
    go_ret
    exact ⟨by simp, HBa.out⟩
  have cMo := fun W => rmayop_any o2.c o2.k o2.h o2.v W true (decide_eq_true hok)
  obtain ⟨tn, htn, hum⟩ := umodR a3 6 (by decide) (by decide)
  have ht6 : tn < 6 := by omega
  have hot : okT (tn : Int) := by unfold okT; omega
  obtain ⟨hs, s, hm, -⟩ := id hord
  have hsc := snoc_call hm (t := (tn : Int)) hot hok
  have hpu := fun N2 h2 => pend_up (t := (tn : Int)) (o := o2) (N2 := N2) hord hm h2
  have I := minv z1 _ s hm
  have hLN : s.l.length ≤ 200 := by have h1 := I.nb; have h2 := (cnt_le z1 z1.length).1; omega
  have cC := fun W (hb : Below w.heap.size w W) => calls_any a1 cap1 z1 W (w1.keep hb) (by omega) hps s.l (by unfold callsL; rw [hm])
  have cE1 := fun W (hb : Below w.heap.size w W) => oends_any a0 a1 a4 cap0 cap1 cap4 z0 z1 z4 W (w0.below hb) (w1.keep hb) (w4.below hb) (by omega) (by omega) hps (by omega) true (by simp [hord]) (endP z0 z1 z4) (by simp)
  have hEL : (endP z0 z1 z4).length ≤ 300 := by
    unfold endP
    rw [hm]
    have := stt_le z0 (dn s.l z4) z4.length
    dsimp only
    omega
  obtain ⟨N2, hN2⟩ : ∃ N2, z1 ++ [(⟨(tn : Int), false, o2, zAd⟩ : EvD)] = N2 := ⟨_, rfl⟩
  have hl2 : N2.length = z1.length + 1 := by rw [← hN2, List.length_append, List.length_singleton]
  have hp2 : ∀ e ∈ N2, e.a.ps.length ≤ 1100000 := fun e he => by
    rw [← hN2] at he
    rcases List.mem_append.1 he with h | h
    · exact hps e h
    · rw [List.mem_singleton.1 h]; exact Nat.zero_le _
  rw [hN2] at hsc
  have HW0 := Lib.hid w0
  have HW := Lib.hid w1
  have HWZ := Lib.hid w1z
  have HW4 := Lib.hid w4
  have HW4Z := Lib.hid w4z
  have HSC := Lib.hid hsc
  have HPU := Lib.hid hpu
  have HN2 := Lib.hid hN2
  have HP2 := Lib.hid hp2
  have HXT := Lib.hid (I.on hot)
  clear cR0 hord hok hs hm hsc hpu I hps w0 w1 w4 w1z w4z s1 w2 w3 htn hot hN2 hp2 hLN
  obtain ⟨Mh, hMe, hMl, hsrc, hpm⟩ := src_evs HW.out HWZ.out
  have HMM := Lib.hid hMe
  have HSRC := Lib.hid hsrc
  have HPM0 := Lib.hid hpm
  have HL1 := Lib.hid (show ([] : List RE).length + Mh.length ≤ 100000 by simp; omega)
  have HL2 := Lib.hid (show ([] : List RE).length + Mh.length = z1.length by simp [hMl])
  have HL3 := Lib.hid (show Mh.length + 1 ≤ 100000 by omega)
  have HL4 := Lib.hid (show Mh.length + 1 = z1.length + 1 by omega)
  clear hMe hsrc hpm hMl
  go_enter Try.func8, Try.ntmps8
  go_wp2_with (first
    | (go_at_call 20; ((with_reducible refine cl.mono ?_); clear cl; rintro e v1 ⟨rfl, hb1⟩; have HB1 := Lib.hid (pb2 HB0.out hb1); have P1 := Lib.hid (P0.out.keep hb1); clear hb1))
    | (go_at_call 29; ((with_reducible refine (cR _ HB1.out).mono ?_); clear cR; rintro e v2 ⟨rfl, hb2⟩; have HB2 := Lib.hid (pb2 HB1.out hb2); have P2 := Lib.hid (P1.out.keep hb2); have x0 := P2.out.at_ 0 _ rfl; have x1 := P2.out.at_ 1 _ rfl; have x2 := P2.out.at_ 2 _ rfl; have x3 := P2.out.at_ 3 _ rfl; clear hb2))
    | (go_at_call 13; ((with_reducible refine (cMo _).mono ?_); clear cMo; rintro e v3 ⟨rfl, hb3⟩; have HB3 := Lib.hid (pb2 HB2.out hb3); have P3 := Lib.hid (P2.out.keep hb3); clear hb3 x0 x1 x2 x3))
    | fail)
  rw [hum]
  clear hum HB0 HB1 HB2 P0 P1 P2
  have HPM := Lib.hid (show ∀ m ∈ Mh, Prs v3 m.a m.c m.e.a.ps from fun m hm => (HPM0.out m hm).below HB3.out)
  have HSR := Lib.hid (show ∀ W, Below v3.heap.size v3 W → Source W (.slice a1 z1.length cap1) Mh.length (cellsE Mh) from fun W hb => src_keep HSRC.out (pb2 HB3.out hb))
  have p0 := P3.out.at_ 0 _ rfl
  have p1 := P3.out.at_ 1 _ rfl
  have p2 := P3.out.at_ 2 _ rfl
  have p3 := P3.out.at_ 3 _ rfl
  go_cut [11] from 49 to 56 (fun v wx => ∃ (ao : Option Addr) (lc : Nat), v = .slice ao (z1.length + 1) lc ∧ Es wx ao lc (z1 ++ [⟨(tn : Int), false, o2, zAd⟩]) ∧ Below v3.heap.size v3 wx)
  case first =>
    refine wp_region_held_drew (S := fun W => W.cell? ⟨w.heap.size, 0, none⟩ = some (.int .i64 o2.c) ∧ W.cell? ⟨w.heap.size, 1, none⟩ = some (.int .i64 o2.k) ∧ W.cell? ⟨w.heap.size, 2, none⟩ = some (.int .i64 o2.h) ∧ W.cell? ⟨w.heap.size, 3, none⟩ = some (.int .i64 o2.v) ∧ Below v3.heap.size v3 W) (by kernel_rfl) (by first | exact ⟨p0, p1, p2, p3, Below.refl _ _⟩ | exact ⟨p0, p1, p2, p3, (Below.refl _ _).drew⟩) (fun hHeld => ?_)
    have HD := Lib.hid hHeld.2.2.2.2
    generalize (World.drew v3 : World) = Wd at hHeld HD ⊢
    refine tkO 1 ?_ rfl (by kernel_rfl) (fun _ _ _ h => h) ⟨by rfl, ?_⟩ hHeld ?_; rotate_left
    · intro wS hSw; (try dsimp only at hSw); (try go_split_ands); go_simp; try with_reducible rfl
    try simp only [List.getElem_toArray, List.getElem_cons_succ, List.getElem_cons_zero, Act.put, List.setIfInBounds_toArray, List.set_cons_zero, List.set_cons_succ]
    refine tkO 3 ?_ rfl (by kernel_rfl) (fun _ _ _ h => h) ⟨by rfl, ?_⟩ hHeld ?_; rotate_left
    · intro wS hSw; (try dsimp only at hSw); (try go_split_ands); go_simp; try with_reducible rfl
    try simp only [List.getElem_toArray, List.getElem_cons_succ, List.getElem_cons_zero, Act.put, List.setIfInBounds_toArray, List.set_cons_zero, List.set_cons_succ]
    refine tkO 4 ?_ rfl (by kernel_rfl) (fun _ _ _ h => h) ⟨by rfl, ?_⟩ hHeld ?_; rotate_left
    · intro wS hSw; (try dsimp only at hSw); (try go_split_ands); go_simp; try with_reducible rfl
    try simp only [List.getElem_toArray, List.getElem_cons_succ, List.getElem_cons_zero, Act.put, List.setIfInBounds_toArray, List.set_cons_zero, List.set_cons_succ]
    refine tkO 5 ?_ rfl (by kernel_rfl) (fun _ _ _ h => h) ⟨by rfl, ?_⟩ hHeld ?_; rotate_left
    · intro wS hSw; (try dsimp only at hSw); (try go_split_ands); go_simp; try with_reducible rfl
    try simp only [List.getElem_toArray, List.getElem_cons_succ, List.getElem_cons_zero, Act.put, List.setIfInBounds_toArray, List.set_cons_zero, List.set_cons_succ]
    refine wpAnyH_ready (rs := [0, 6]) (by kernel_rfl) (by simp) ?_
    refine AllReadyH.cons rfl (fun K hK => ?_) (AllReadyH.cons rfl (fun K hK => ?_) AllReadyH.nil)
    · go_simp
      refine hK.out _ _ ?_ (fun hNext => ?_)
      · exact ⟨pkc (pb2 HD.out (pal _)) p0, pkc (pb2 HD.out (pal _)) p1, pkc (pb2 HD.out (pal _)) p2, pkc (pb2 HD.out (pal _)) p3, (pb2 HD.out (pal _))⟩
      clear hK K hHeld
      have hHeld := hNext
      clear hNext
      try simp only [List.getElem_toArray, List.getElem_cons_succ, List.getElem_cons_zero, Act.put, List.setIfInBounds_toArray, List.set_cons_zero, List.set_cons_succ]
      have T0 := Lib.hid (TW.a0 HD.out)
      replace HD := Lib.hid (pb2 HD.out (pal (.cells #[] 62)))
      have hgl : Wd.heap.size < (Wd.alloc (.cells #[] 62)).heap.size := by simp
      generalize Wd.alloc (.cells #[] 62) = Wa at *
      generalize Wd.heap.size = g0 at *
      refine wpAnyH_ready (rs := [2, 6]) (by kernel_rfl) (by simp) ?_
      refine AllReadyH.cons rfl (fun K hK => ?_) (AllReadyH.cons rfl (fun K hK => ?_) AllReadyH.nil)
      · refine step_tw rfl (.tmp 49) (.tmp 50) rfl v3 (.slice (some ⟨g0, 0, none⟩) 0 0) [] Mh rfl T0.out HPM.out _ rfl (HSR.out _ HD.out) HL1.out z1.length HL2.out ?_
        intro ao1 lc1 Wb hm1 hc1 hT1 hO1 hK1
        have T1 := Lib.hid hT1
        clear hT1 hO1 hK1
        refine hK.out _ _ ?_ (fun hNext => ?_)
        · exact ⟨pkc T1.out.be p0, pkc T1.out.be p1, pkc T1.out.be p2, pkc T1.out.be p3, T1.out.be⟩
        clear hK K hHeld
        have hHeld := hNext
        clear hNext
        try simp only [List.getElem_toArray, List.getElem_cons_succ, List.getElem_cons_zero, Act.put, List.setIfInBounds_toArray, List.set_cons_zero, List.set_cons_succ]
        refine wpAnyH_ready (rs := [6]) (by kernel_rfl) (by simp) ?_
        refine AllReadyH.cons rfl (fun K hK => ?_) AllReadyH.nil
        go_simp
        refine hK.out _ _ ?_ (fun hNext => ?_)
        · exact ⟨pkc (pb2 T1.out.be (pal _)) p0, pkc (pb2 T1.out.be (pal _)) p1, pkc (pb2 T1.out.be (pal _)) p2, pkc (pb2 T1.out.be (pal _)) p3, (pb2 T1.out.be (pal _))⟩
        clear hK K hHeld
        have hHeld := hNext
        clear hNext
        try simp only [List.getElem_toArray, List.getElem_cons_succ, List.getElem_cons_zero, Act.put, List.setIfInBounds_toArray, List.set_cons_zero, List.set_cons_succ]
        have B6 := Lib.hid (Bq.new Wb #[.int .i64 (tn : Int), .bool false, .int .i64 o2.c, .int .i64 o2.k, .int .i64 o2.h, .int .i64 o2.v, .int .i64 0, .bool false, .int .i64 0, .int .i64 0, .int .i64 0, .slice none 0 0] 62)
        replace T1 := Lib.hid (T1.out.keep (pal (.cells #[.int .i64 (tn : Int), .bool false, .int .i64 o2.c, .int .i64 o2.k, .int .i64 o2.h, .int .i64 o2.v, .int .i64 0, .bool false, .int .i64 0, .int .i64 0, .int .i64 0, .slice none 0 0] 62)))
        generalize Wb.alloc (.cells #[.int .i64 (tn : Int), .bool false, .int .i64 o2.c, .int .i64 o2.k, .int .i64 o2.h, .int .i64 o2.v, .int .i64 0, .bool false, .int .i64 0, .int .i64 0, .int .i64 0, .slice none 0 0] 62) = Wc at *
        generalize Wb.heap.size = g6 at *
        refine wpAnyH_ready (rs := [7]) (by kernel_rfl) (by simp) ?_
        refine AllReadyH.cons rfl (fun K hK => ?_) AllReadyH.nil
        refine step_tw rfl (.tmp 51) (.tmp 55) rfl v3 (.slice ao1 z1.length lc1) Mh [⟨⟨(tn : Int), false, o2, zAd⟩, none, 0⟩] rfl T1.out (fun m hm => by rw [List.mem_singleton.1 hm]; exact Prs.nil _) _ rfl (src_ev B6.out) HL3.out (z1.length + 1) HL4.out ?_
        intro ao2 lc2 We hm2 hc2 hT2 hO2 hK2
        have T2 := Lib.hid hT2
        clear hT2 hO2 hK2
        refine hK.out _ _ ?_ (fun hNext => ?_)
        · exact ⟨pkc T2.out.be p0, pkc T2.out.be p1, pkc T2.out.be p2, pkc T2.out.be p3, T2.out.be⟩
        clear hK K hHeld
        have hHeld := hNext
        clear hNext
        try simp only [List.getElem_toArray, List.getElem_cons_succ, List.getElem_cons_zero, Act.put, List.setIfInBounds_toArray, List.set_cons_zero, List.set_cons_succ]
        refine tkO 8 ?_ rfl (by kernel_rfl) (fun _ _ _ h => h) ⟨by rfl, ?_⟩ hHeld ?_; rotate_left
        · intro wS hSw; (try dsimp only at hSw); (try go_split_ands); go_simp; try with_reducible rfl
        try simp only [List.getElem_toArray, List.getElem_cons_succ, List.getElem_cons_zero, Act.put, List.setIfInBounds_toArray, List.set_cons_zero, List.set_cons_succ]
        refine wpAnyH_done (by kernel_rfl) ?_ _
        clear hHeld
        go_wp2_with (fail)
        go_meet
        exact ⟨ao2, lc2, rfl, by have h := T2.out.es.2; rw [List.map_append, HMM.out] at h; exact h, T2.out.be⟩
      · go_simp
        refine hK.out _ _ ?_ (fun hNext => ?_)
        · exact ⟨pkc (pb2 HD.out (pal _)) p0, pkc (pb2 HD.out (pal _)) p1, pkc (pb2 HD.out (pal _)) p2, pkc (pb2 HD.out (pal _)) p3, (pb2 HD.out (pal _))⟩
        clear hK K hHeld
        have hHeld := hNext
        clear hNext
        try simp only [List.getElem_toArray, List.getElem_cons_succ, List.getElem_cons_zero, Act.put, List.setIfInBounds_toArray, List.set_cons_zero, List.set_cons_succ]
        have B6 := Lib.hid (Bq.new Wa #[.int .i64 (tn : Int), .bool false, .int .i64 o2.c, .int .i64 o2.k, .int .i64 o2.h, .int .i64 o2.v, .int .i64 0, .bool false, .int .i64 0, .int .i64 0, .int .i64 0, .slice none 0 0] 62)
        have hne2 : ¬ g0 = Wa.heap.size := by omega
        replace T0 := Lib.hid (T0.out.keep (pal (.cells #[.int .i64 (tn : Int), .bool false, .int .i64 o2.c, .int .i64 o2.k, .int .i64 o2.h, .int .i64 o2.v, .int .i64 0, .bool false, .int .i64 0, .int .i64 0, .int .i64 0, .slice none 0 0] 62)))
        replace HD := Lib.hid (pb2 HD.out (pal (.cells #[.int .i64 (tn : Int), .bool false, .int .i64 o2.c, .int .i64 o2.k, .int .i64 o2.h, .int .i64 o2.v, .int .i64 0, .bool false, .int .i64 0, .int .i64 0, .int .i64 0, .slice none 0 0] 62)))
        generalize Wa.alloc (.cells #[.int .i64 (tn : Int), .bool false, .int .i64 o2.c, .int .i64 o2.k, .int .i64 o2.h, .int .i64 o2.v, .int .i64 0, .bool false, .int .i64 0, .int .i64 0, .int .i64 0, .slice none 0 0] 62) = Wb at *
        generalize Wa.heap.size = g6 at *
        refine wpAnyH_ready (rs := [2]) (by kernel_rfl) (by simp) ?_
        refine AllReadyH.cons rfl (fun K hK => ?_) AllReadyH.nil
        refine step_tw rfl (.tmp 49) (.tmp 50) rfl v3 (.slice (some ⟨g0, 0, none⟩) 0 0) [] Mh rfl T0.out HPM.out _ rfl (HSR.out _ HD.out) HL1.out z1.length HL2.out ?_
        intro ao1 lc1 Wc hm1 hc1 hT1 hO1 hK1
        have T1 := Lib.hid hT1
        replace B6 := Lib.hid (B6.out.only hO1 (fun x => hne2 (by simpa [Value.ownBlock] using x)))
        clear hT1 hO1 hK1
        refine hK.out _ _ ?_ (fun hNext => ?_)
        · exact ⟨pkc T1.out.be p0, pkc T1.out.be p1, pkc T1.out.be p2, pkc T1.out.be p3, T1.out.be⟩
        clear hK K hHeld
        have hHeld := hNext
        clear hNext
        try simp only [List.getElem_toArray, List.getElem_cons_succ, List.getElem_cons_zero, Act.put, List.setIfInBounds_toArray, List.set_cons_zero, List.set_cons_succ]
        refine wpAnyH_ready (rs := [7]) (by kernel_rfl) (by simp) ?_
        refine AllReadyH.cons rfl (fun K hK => ?_) AllReadyH.nil
        refine step_tw rfl (.tmp 51) (.tmp 55) rfl v3 (.slice ao1 z1.length lc1) Mh [⟨⟨(tn : Int), false, o2, zAd⟩, none, 0⟩] rfl T1.out (fun m hm => by rw [List.mem_singleton.1 hm]; exact Prs.nil _) _ rfl (src_ev B6.out) HL3.out (z1.length + 1) HL4.out ?_
        intro ao2 lc2 We hm2 hc2 hT2 hO2 hK2
        have T2 := Lib.hid hT2
        clear hT2 hO2 hK2
        refine hK.out _ _ ?_ (fun hNext => ?_)
        · exact ⟨pkc T2.out.be p0, pkc T2.out.be p1, pkc T2.out.be p2, pkc T2.out.be p3, T2.out.be⟩
        clear hK K hHeld
        have hHeld := hNext
        clear hNext
        try simp only [List.getElem_toArray, List.getElem_cons_succ, List.getElem_cons_zero, Act.put, List.setIfInBounds_toArray, List.set_cons_zero, List.set_cons_succ]
        refine tkO 8 ?_ rfl (by kernel_rfl) (fun _ _ _ h => h) ⟨by rfl, ?_⟩ hHeld ?_; rotate_left
        · intro wS hSw; (try dsimp only at hSw); (try go_split_ands); go_simp; try with_reducible rfl
        try simp only [List.getElem_toArray, List.getElem_cons_succ, List.getElem_cons_zero, Act.put, List.setIfInBounds_toArray, List.set_cons_zero, List.set_cons_succ]
        refine wpAnyH_done (by kernel_rfl) ?_ _
        clear hHeld
        go_wp2_with (fail)
        go_meet
        exact ⟨ao2, lc2, rfl, by have h := T2.out.es.2; rw [List.map_append, HMM.out] at h; exact h, T2.out.be⟩
    · go_simp
      refine hK.out _ _ ?_ (fun hNext => ?_)
      · exact ⟨pkc (pb2 HD.out (pal _)) p0, pkc (pb2 HD.out (pal _)) p1, pkc (pb2 HD.out (pal _)) p2, pkc (pb2 HD.out (pal _)) p3, (pb2 HD.out (pal _))⟩
      clear hK K hHeld
      have hHeld := hNext
      clear hNext
      try simp only [List.getElem_toArray, List.getElem_cons_succ, List.getElem_cons_zero, Act.put, List.setIfInBounds_toArray, List.set_cons_zero, List.set_cons_succ]
      have B6 := Lib.hid (Bq.new Wd #[.int .i64 (tn : Int), .bool false, .int .i64 o2.c, .int .i64 o2.k, .int .i64 o2.h, .int .i64 o2.v, .int .i64 0, .bool false, .int .i64 0, .int .i64 0, .int .i64 0, .slice none 0 0] 62)
      replace HD := Lib.hid (pb2 HD.out (pal (.cells #[.int .i64 (tn : Int), .bool false, .int .i64 o2.c, .int .i64 o2.k, .int .i64 o2.h, .int .i64 o2.v, .int .i64 0, .bool false, .int .i64 0, .int .i64 0, .int .i64 0, .slice none 0 0] 62)))
      generalize Wd.alloc (.cells #[.int .i64 (tn : Int), .bool false, .int .i64 o2.c, .int .i64 o2.k, .int .i64 o2.h, .int .i64 o2.v, .int .i64 0, .bool false, .int .i64 0, .int .i64 0, .int .i64 0, .slice none 0 0] 62) = Wa at *
      generalize Wd.heap.size = g6 at *
      refine wpAnyH_ready (rs := [0]) (by kernel_rfl) (by simp) ?_
      refine AllReadyH.cons rfl (fun K hK => ?_) AllReadyH.nil
      go_simp
      refine hK.out _ _ ?_ (fun hNext => ?_)
      · exact ⟨pkc (pb2 HD.out (pal _)) p0, pkc (pb2 HD.out (pal _)) p1, pkc (pb2 HD.out (pal _)) p2, pkc (pb2 HD.out (pal _)) p3, (pb2 HD.out (pal _))⟩
      clear hK K hHeld
      have hHeld := hNext
      clear hNext
      try simp only [List.getElem_toArray, List.getElem_cons_succ, List.getElem_cons_zero, Act.put, List.setIfInBounds_toArray, List.set_cons_zero, List.set_cons_succ]
      have T0 := Lib.hid (TW.a0 HD.out)
      have hne := B6.out.lt
      have hne2 : ¬ Wa.heap.size = g6 := by omega
      clear hne
      replace B6 := Lib.hid (B6.out.keep (pal (.cells #[] 62)))
      replace HD := Lib.hid (pb2 HD.out (pal (.cells #[] 62)))
      have hgl : Wa.heap.size < (Wa.alloc (.cells #[] 62)).heap.size := by simp
      generalize Wa.alloc (.cells #[] 62) = Wb at *
      generalize Wa.heap.size = g0 at *
      refine wpAnyH_ready (rs := [2]) (by kernel_rfl) (by simp) ?_
      refine AllReadyH.cons rfl (fun K hK => ?_) AllReadyH.nil
      refine step_tw rfl (.tmp 49) (.tmp 50) rfl v3 (.slice (some ⟨g0, 0, none⟩) 0 0) [] Mh rfl T0.out HPM.out _ rfl (HSR.out _ HD.out) HL1.out z1.length HL2.out ?_
      intro ao1 lc1 Wc hm1 hc1 hT1 hO1 hK1
      have T1 := Lib.hid hT1
      replace B6 := Lib.hid (B6.out.only hO1 (fun x => hne2 (by simpa [Value.ownBlock] using x)))
      clear hT1 hO1 hK1
      refine hK.out _ _ ?_ (fun hNext => ?_)
      · exact ⟨pkc T1.out.be p0, pkc T1.out.be p1, pkc T1.out.be p2, pkc T1.out.be p3, T1.out.be⟩
      clear hK K hHeld
      have hHeld := hNext
      clear hNext
      try simp only [List.getElem_toArray, List.getElem_cons_succ, List.getElem_cons_zero, Act.put, List.setIfInBounds_toArray, List.set_cons_zero, List.set_cons_succ]
      refine wpAnyH_ready (rs := [7]) (by kernel_rfl) (by simp) ?_
      refine AllReadyH.cons rfl (fun K hK => ?_) AllReadyH.nil
      refine step_tw rfl (.tmp 51) (.tmp 55) rfl v3 (.slice ao1 z1.length lc1) Mh [⟨⟨(tn : Int), false, o2, zAd⟩, none, 0⟩] rfl T1.out (fun m hm => by rw [List.mem_singleton.1 hm]; exact Prs.nil _) _ rfl (src_ev B6.out) HL3.out (z1.length + 1) HL4.out ?_
      intro ao2 lc2 We hm2 hc2 hT2 hO2 hK2
      have T2 := Lib.hid hT2
      clear hT2 hO2 hK2
      refine hK.out _ _ ?_ (fun hNext => ?_)
      · exact ⟨pkc T2.out.be p0, pkc T2.out.be p1, pkc T2.out.be p2, pkc T2.out.be p3, T2.out.be⟩
      clear hK K hHeld
      have hHeld := hNext
      clear hNext
      try simp only [List.getElem_toArray, List.getElem_cons_succ, List.getElem_cons_zero, Act.put, List.setIfInBounds_toArray, List.set_cons_zero, List.set_cons_succ]
      refine tkO 8 ?_ rfl (by kernel_rfl) (fun _ _ _ h => h) ⟨by rfl, ?_⟩ hHeld ?_; rotate_left
      · intro wS hSw; (try dsimp only at hSw); (try go_split_ands); go_simp; try with_reducible rfl
      try simp only [List.getElem_toArray, List.getElem_cons_succ, List.getElem_cons_zero, Act.put, List.setIfInBounds_toArray, List.set_cons_zero, List.set_cons_succ]
      refine wpAnyH_done (by kernel_rfl) ?_ _
      clear hHeld
      go_wp2_with (fail)
      go_meet
      exact ⟨ao2, lc2, rfl, by have h := T2.out.es.2; rw [List.map_append, HMM.out] at h; exact h, T2.out.be⟩
  case rest =>
    obtain ⟨au, lu, rfl, hEu, hBu⟩ := hcut
    rw [HN2.out] at hEu
    have HBu := Lib.hid (pb2 HB3.out hBu)
    have HEu := Lib.hid hEu
    have PU := Lib.hid (P3.out.keep hBu)
    have hu1 := hEu.1
    have hu2 := hEu.2.1
    unfold maxLen at hu2
    rw [hl2] at hu1
    clear hEu hBu p0 p1 p2 p3 HPM HSR P3 HL1 HL2 HL3 HL4 HMM HSRC HPM0
    by_cases hx0 : s.x (tn : Int) = 0
    rotate_left
    · have hsc := HSC.out
      rw [if_neg hx0] at hsc
      have cM := fun W (hb : Below wc.heap.size wc W) => may_anyP au lu N2 W (HEu.out.keep hb) (by omega) false (by rw [hsc]; rfl)
      rw [hl2] at cM
      clear cC cE1 hsc hx0
      go_wp2_with (first
        | (go_at_call 21; ((with_reducible refine (cM _ (by first | exact Below.refl _ _ | exact (Below.refl _ _).drew)).mono ?_); clear cM; rintro e v5 ⟨rfl, hb5⟩; have HB5 := Lib.hid (pb2 HBu.out hb5); clear hb5))
        | (go_at_call 26; ((with_reducible refine (ca _ HB5.out).mono ?_); clear ca; rintro e wa ⟨rfl, hba⟩; have HBa := Lib.hid (pb2 HB5.out hba); clear hba))
        | fail)
      go_ret
      exact ⟨by simp, HBa.out⟩
    have hsc := HSC.out
    rw [if_pos hx0] at hsc
    obtain ⟨u1, u2, u3⟩ := HPU.out N2 hsc
    have cM := fun W (hb : Below wc.heap.size wc W) => may_anyP au lu N2 W (HEu.out.keep hb) (by omega) true (by rw [hsc]; rfl)
    have hl5 : (z4 ++ [(s.l.length : Int)]).length = z4.length + 1 := by rw [List.length_append, List.length_singleton]
    have cE2 := fun W a' c' (hb : Below wc.heap.size wc W) (hr : RI W a' c' (z4 ++ [(s.l.length : Int)])) => oends_any a0 au a' cap0 lu c' z0 N2 (z4 ++ [(s.l.length : Int)]) W (HW0.out.below (pb2 HBu.out hb)) (HEu.out.keep hb) hr (by omega) (by omega) HP2.out (by rw [hl5]; omega) true (by simp [u2]) (doP (endP z0 z1 z4) o2.c o2.k o2.v) (by rw [if_pos rfl, u3])
    have cR2 := fun W (hb : Below wc.heap.size wc W) => oright_any a0 au a4 cap0 lu cap4 z0 N2 z4 W (HW0.out.below (pb2 HBu.out hb)) (HEu.out.keep hb) (HW4.out.below (pb2 HBu.out hb)) (by omega) (by omega) HP2.out (by omega) true (by simp [u1])
    have HRS := Lib.hid (show ∀ W, Below w.heap.size w W → Source W (.slice a4 z4.length cap4) z4.length (cellsI z4) from fun W hb => src_ri (HW4.out.below hb) HW4Z.out)
    have HEL := Lib.hid hEL
    have hpl := doP_le (endP z0 z1 z4) o2.c o2.k o2.v
    have HPL := Lib.hid hpl
    rw [hl2] at cM cE2 cR2
    rw [hl5] at cE2
    clear hsc hx0 u1 u2 u3 hl5 hEL hpl
    generalize hR1 : endP z0 z1 z4 = R1 at *
    have cd := fun ao cp W h => rdo_any ao cp R1 o2.c o2.k o2.h o2.v W h (by have := HEL.out; omega)
    unfold DoIs Ad.val at cd
    generalize doA R1 o2.c o2.k o2.h = A at cd
    generalize hR2 : doP R1 o2.c o2.k o2.v = R2 at *
    have cSP := fun a b c d W h1 h2 => samep_any a b c d R2 R2 W h1 h2 true (decide_eq_true rfl)
    clear hR1 hR2
    go_wp2_with (first
      | (go_at_call 21; ((with_reducible refine (cM _ (by first | exact Below.refl _ _ | exact (Below.refl _ _).drew)).mono ?_); clear cM; rintro e v5 ⟨rfl, hb5⟩; have HC5 := Lib.hid (pb2 (show Below wc.heap.size wc _ by first | exact Below.refl _ _ | exact (Below.refl _ _).drew) hb5); clear hb5))
      | (go_at_call 24; ((with_reducible refine (cC _ (pb2 HBu.out HC5.out)).mono ?_); clear cC; rintro e v6 ⟨ao6, cp6, rfl, -, hb6⟩; have HC6 := Lib.hid (pb2 HC5.out hb6); clear hb6))
      | (go_at_call 27; ((with_reducible refine (cE1 _ (pb2 HBu.out HC6.out)).mono ?_); clear cE1; rintro e v7 ⟨ao7, cp7, rfl, hp7, hb7⟩; have HC7 := Lib.hid (pb2 HC6.out hb7); have HP7 := Lib.hid hp7; clear hb7 hp7))
      | (at_builtin; refine wpList_tn rfl (.tmp 74) (.tmp 75) rfl v7 (.slice (some ⟨v7.heap.size, 0, none⟩) 0 0) [] z4 rfl (TN.a0 (Below.refl _ _)) _ rfl (HRS.out _ (pb1 (pb2 HBu.out HC7.out) _)) (by simp; omega) z4.length (by simp) z4 rfl ?_; intro ao8 cp8 v8 hm8 hc8 hT8 hO8; have HT8 := Lib.hid hT8; have HP8 := Lib.hid (prs_onlyC (HP7.out.below (pal _)) hO8 (fun hp b o sp e h => (by have h1 := plt HP7.out hp e; have h2 : v7.heap.size = b := (by simpa [Value.ownBlock] using h); omega))); clear hT8 hO8; unfold maxLen at hm8)
      | (at_builtin; refine wpList_tn rfl (.tmp 76) (.tmp 78) rfl v7 (.slice ao8 z4.length cp8) z4 [(s.l.length : Int)] rfl (HT8.out.keep (pal _)) _ rfl (src_one _) (by simp; omega) (z4.length + 1) (by simp) (z4 ++ [(s.l.length : Int)]) rfl ?_; intro ao9 cp9 v9 hm9 hc9 hT9 hO9; have HT9 := Lib.hid hT9; have HP9 := Lib.hid (prs_onlyC (HP8.out.below (pal _)) hO9 (fun hp b o sp e h => HT8.out.row.av b h (plt HP7.out hp e))); have HC9 := Lib.hid (pb2 HC7.out hT9.be); clear hT9 hO9; unfold maxLen at hm9)
      | (go_at_call 27; ((with_reducible refine (cE2 _ _ _ HC9.out HT9.out.ri).mono ?_); clear cE2; rintro e v10 ⟨ao10, cp10, rfl, hp10, hb10⟩; have HP10 := Lib.hid hp10; have HPA := Lib.hid (HP9.out.below hb10); have HC10 := Lib.hid (pb2 HC9.out hb10); have PX := Lib.hid (PU.out.keep HC10.out); have x0 := PX.out.at_ 0 _ rfl; have x1 := PX.out.at_ 1 _ rfl; have x2 := PX.out.at_ 2 _ rfl; have x3 := PX.out.at_ 3 _ rfl; clear hp10 hb10))
      | (go_at_call 34; ((with_reducible refine (cd _ _ _ HPA.out).mono ?_); clear cd x0 x1 x2 x3; rintro e v11 ⟨ao11, cp11, aa, ca11, rfl, hq11, hA11, hb11⟩; have HPN := Lib.hid ((hq11.prs rfl).below (pal (.cells #[.int .i64 A.err, .bool A.ok, .int .i64 A.k, .int .i64 A.v, .int .i64 A.n, .slice aa A.ps.length ca11] 44))); have HPE := Lib.hid ((HP10.out.below hb11).below (pal (.cells #[.int .i64 A.err, .bool A.ok, .int .i64 A.k, .int .i64 A.v, .int .i64 A.n, .slice aa A.ps.length ca11] 44))); have HC11 := Lib.hid (pb1 (pb2 HC10.out hb11) (.cells #[.int .i64 A.err, .bool A.ok, .int .i64 A.k, .int .i64 A.v, .int .i64 A.n, .slice aa A.ps.length ca11] 44)); clear hq11 hA11 hb11))
      | (go_at_call 29; ((with_reducible refine (cR2 _ HC11.out).mono ?_); clear cR2; rintro e v12 ⟨rfl, hb12⟩; have HPN2 := Lib.hid (HPN.out.below hb12); have HPE2 := Lib.hid (HPE.out.below hb12); have HC12 := Lib.hid (pb2 HC11.out hb12); clear hb12))
      | (go_at_call 19; ((with_reducible refine (cSP _ _ _ _ _ HPE2.out HPN2.out).mono ?_); clear cSP; rintro e v13 ⟨rfl, hb13⟩; have HC13 := Lib.hid (pb2 HBu.out (pb2 HC12.out hb13)); clear hb13))
      | (go_at_call 26; ((with_reducible refine (ca _ HC13.out).mono ?_); clear ca; rintro e wa ⟨rfl, hba⟩; have HBa := Lib.hid (pb2 HC13.out hba); clear hba))
      | fail)
    go_ret
    exact ⟨by simp, HBa.out⟩

set_option maxRecDepth 100000 in
theorem lifted (os : Os) (started : os.Started) (H : Type) (enc : TypeId × Value → H) :
    ReturnsInHanded {} Try.checked os 8 .any (Rows.orderPendingSpec.pre6 enc Try.prog Try.f8 Rows.orderPendingRow.domain false) (Rows.orderPendingSpec.post enc Try.prog Try.f8 false true false false) := by
  refine returnsInHanded_of_change_sized (C := Try.checked) own started (by kernel_rfl) Try.func8
    (ChangeSpec.witness6 (enc := enc) (C := Try.checked) false ⟨#[], #[.slice none 0 0, .slice none 0 0, .agg #[.int .i64 0, .int .i64 0, .int .i64 0, .int .i64 0], .int .i64 0, .slice none 0 0], []⟩ 8 (by kernel_rfl) (by kernel_rfl) (by kernel_rfl) (by kernel_rfl)) ?_
  intro W base args ds gs before hval0 hW hcnd hsz _
  have hval : ∀ (j : Nat) t v, Try.f8.params[j]? = some t → args[j]? = some v → Value.okWide Try.prog W .any base t v := hval0
  have hW' := hW
  obtain ⟨p, q, hA0, hV, rfl, hfz, hnd⟩ := hW
  have hA : DataW.TrodAll enc Try.prog W 0 (fun _ => true) true Try.f8.params.toList args.toList ds p := hA0
  rw [Try.params8] at hA hval
  obtain ⟨v0, vs0, d0, ds0, p0, q0, hargs, rfl, rfl, h0, r0⟩ := trodAll_cons hA
  obtain ⟨v1, vs1, d1, ds1, p1, q1, rfl, rfl, rfl, h1, r1⟩ := trodAll_cons r0
  obtain ⟨v2, vs2, d2, ds2, p2, q2, rfl, rfl, rfl, h2, r2⟩ := trodAll_cons r1
  obtain ⟨v3, vs3, d3, ds3, p3, q3, rfl, rfl, rfl, h3, r3⟩ := trodAll_cons r2
  obtain ⟨v4, vs4, d4, ds4, p4, q4, rfl, rfl, rfl, h4, r4⟩ := trodAll_cons r3
  obtain ⟨rfl, rfl, rfl⟩ := trodAll_nil r4
  obtain rfl : args = #[v0, v1, v2, v3, v4] := by cases args; simp_all
  obtain ⟨rfl, rfl⟩ := trodVars_none hV
  have k0 := h0
  have lt0 : ∀ x ∈ p0, x.block < W.heap.size := by obtain ⟨m, hm⟩ := k0; exact DataW.trod_lt m _ _ _ hm
  obtain ⟨b0, l0, c0, rfl⟩ := okWide_slice Try.underlying42 (hval 0 42 v0 rfl rfl)
  obtain ⟨a0, cap0, z0, e0, w0⟩ := open_pairs (enc := enc) (w := W) (v := .slice b0 l0 c0) (fuel := h0.choose) (by simpa [Value.cells] using h0.choose_spec)
  rw [e0] at hval k0 h0 hW' hval0 hA0
  have k1 := h1
  have lt1 : ∀ x ∈ p1, x.block < W.heap.size := by obtain ⟨m, hm⟩ := k1; exact DataW.trod_lt m _ _ _ hm
  obtain ⟨b1, l1, c1, rfl⟩ := okWide_slice Try.underlying52 (hval 1 52 v1 rfl rfl)
  obtain ⟨a1, cap1, z1, e1, w1, s1⟩ := open_eventsz (enc := enc) (w := W) (v := .slice b1 l1 c1) (fuel := h1.choose) (by simpa [Value.cells] using h1.choose_spec) (fun n hn => by simpa using List.all_eq_true.1 hsz n (DataW.weights_mem_each (j := 1) rfl rfl n hn))
  rw [e1] at hval k1 h1 hW' hval0 hA0
  have k2 := h2
  have lt2 : ∀ x ∈ p2, x.block < W.heap.size := by obtain ⟨m, hm⟩ := k2; exact DataW.trod_lt m _ _ _ hm
  obtain ⟨u2, rfl, _⟩ := okWide_struct Try.underlying28 (hval 2 28 v2 rfl rfl)
  obtain ⟨o2, e2, w2⟩ := fields_op (enc := enc) (w := W) (cs := u2.toList) (fuel := h2.choose) (by simpa [Value.cells] using h2.choose_spec)
  obtain rfl : u2 = #[.int .i64 o2.c, .int .i64 o2.k, .int .i64 o2.h, .int .i64 o2.v] := by cases u2; simp_all
  have k3 := h3
  have lt3 : ∀ x ∈ p3, x.block < W.heap.size := by obtain ⟨m, hm⟩ := k3; exact DataW.trod_lt m _ _ _ hm
  obtain ⟨a3, rfl, rfl, rfl, w3⟩ := open_int Try.underlying3 (hval 3 3 v3 rfl rfl) h3
  have k4 := h4
  have lt4 : ∀ x ∈ p4, x.block < W.heap.size := by obtain ⟨m, hm⟩ := k4; exact DataW.trod_lt m _ _ _ hm
  obtain ⟨b4, l4, c4, rfl⟩ := okWide_slice Try.underlying37 (hval 4 37 v4 rfl rfl)
  obtain ⟨a4, cap4, z4, e4, w4⟩ := open_riz (enc := enc) (w := W) (v := .slice b4 l4 c4) (fuel := h4.choose) (by simpa [Value.cells] using h4.choose_spec)
  rw [e4] at hval k4 h4 hW' hval0 hA0
  clear hA0 hval0
  rw [e0]; rw [e1]; rw [e4]; refine (walk a0 cap0 z0 a1 cap1 z1 o2 a3 a4 cap4 z4 W w0 w1 s1 w2 w3 w4).mono fun e W' ⟨he, bel⟩ => ?_
  subst he
  exact ⟨_, rfl, _, _, _, [], _, [], hW', trodAll_mk1 (shut_bool Try.underlying4 _), (trodAll_cons_mk (Below.trod laidOut (by kernel_rfl) (of_decide_eq_true (by kernel_rfl)) k0 bel lt0) (trodAll_cons_mk (Below.trod laidOut (by kernel_rfl) (of_decide_eq_true (by kernel_rfl)) k1 bel lt1) (trodAll_cons_mk (Below.trod laidOut (by kernel_rfl) (of_decide_eq_true (by kernel_rfl)) k2 bel lt2) (trodAll_cons_mk (Below.trod laidOut (by kernel_rfl) (of_decide_eq_true (by kernel_rfl)) k3 bel lt3) (trodAll_cons_mk (Below.trod laidOut (by kernel_rfl) (of_decide_eq_true (by kernel_rfl)) k4 bel lt4) trodAll_mk0))))), rfl, bel.frame _, fun h => by cases h⟩

theorem over : Rows.orderPendingRow.holds Try.pinned (OpenSpec.ofChange Rows.orderPendingSpec) :=
  OpenClaim.holds_of_wide 8 Try.f8 rfl rfl rfl rfl rfl rfl rfl ⟨rfl, rfl, rfl, rfl, rfl⟩ rfl rfl rfl rfl rfl (by kernel_rfl) Try.func8 (by kernel_rfl)
    (of_decide_eq_true (by kernel_rfl)) (by unfold Func.isWrapper; first | (rw [if_pos (by decide +kernel)]; kernel_rfl) | (rw [if_neg (by decide +kernel)]; exact ⟨rfl, rfl⟩))
    (fun os started H enc _ => lifted os started H enc)

theorem orderPendingHolds : Rows.OrderPendingSaid := over
#print axioms orderPendingHolds
end Go.Proofs.Ytijepfabkalcoaa.orderPending
