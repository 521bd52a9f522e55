/- A beginning of a history that has an order has one; with a call more that has not returned it has one still. No condition. -/
import Derived.Test.YtadfnbmogobopaaRows
import Derived.Test.YtadfnbmogobopaaLiF
import Derived.Test.YtadfnbmogobopaaOrI
import Derived.LoopTactic
import Derived.WalkKit
import Derived.ProofKit
import Derived.OpenShut
import Derived.ChangeOld
import Derived.Below
namespace Go.Proofs.Ytadfnbmogobopaa.linCut
open Go.ChangeShapes Go.WideShapes Go.ChangeAt Go.RowKit
set_option linter.all false

theorem own : ownKnob Try.prog.godebug = none := by kernel_rfl
theorem laidOut : laidOutB Try.prog = true := by kernel_rfl

theorem onn_step (h : List EvD) (t : Int) (n : Nat) : decide (¬ onn h t (n + 1) = -1) = if (h.getD n zEv).t = t then !(h.getD n zEv).r else decide (¬ onn h t n = -1) := by
  show decide (¬ (if (h.getD n zEv).t = t then (if (h.getD n zEv).r = true then (-1 : Int) else (n : Int)) else onn h t n) = -1) = _
  by_cases e : (h.getD n zEv).t = t
  · rw [if_pos e, if_pos e]
    cases (h.getD n zEv).r
    · have : ¬ (n : Int) = -1 := by omega
      simp [this]
    · simp
  · rw [if_neg e, if_neg e]
/-- With a call more that has not returned there is an order still. -/
theorem pend_one {m : List Pr} {N N2 : List EvD} {l : List Int} {s : Mt} {t : Int} {o : OpD} (h : ordR m N l) (hm : mtch N = some s) (h2 : mtch N2 = some (s.beg N.length ⟨t, false, o, zAd⟩)) : ordR m N2 l := by
  have hr := (ordR_is h.1 hm).1 h
  have hl : (s.beg N.length ⟨t, false, o, zAd⟩).l = s.l ++ [⟨t, (N.length : Int), -1, o, zAd⟩] := rfl
  exact ⟨h.1, _, h2, by rw [hl]; exact rgt_app hr (by show (-1 : Int) < 0; decide)⟩

set_option maxRecDepth 100000 in
set_option maxHeartbeats 51200000 in
theorem walk (a0 : Option Addr) (cap0 : Nat) (z0 : List Pr) (a1 : Option Addr) (cap1 : Nat) (z1 : List EvD) (a2 : Int) (o3 : OpD) (w : World) (w0 : Prs w a0 cap0 z0) (r0 : Rng z0) (w1 : Es w a1 cap1 z1 ∧ (a1 = none → cap1 = 0)) (s1 : MidE z1 ∧ ∀ e ∈ z1, e.o.wf) (w2 : (Lit.int .i64 a2).wf = true) (w3 : o3.wf) :
    Calls Try.prog 3 #[.slice a0 z0.length cap0, .slice a1 z1.length cap1, .int .i64 a2, .agg #[.int .i64 o3.c, .int .i64 o3.k, .int .i64 o3.h, .int .i64 o3.v]] w fun e w' => e = .returned (.bool true) ∧ Below w.heap.size w w' := by
  obtain ⟨w1, w1z⟩ := w1
  have hb0 := pal (w := w) (.cells #[.int .i64 o3.c, .int .i64 o3.k, .int .i64 o3.h, .int .i64 o3.v] 25)
  have P0 := Lib.hid (Bq.new w #[.int .i64 o3.c, .int .i64 o3.k, .int .i64 o3.h, .int .i64 o3.v] 25)
  have HB0 := Lib.hid hb0
  have hz1 := w0.1
  have hz2 := w0.2.1
  have hz3 := w1.1
  have hz4 := w1.2.1
  unfold maxLen at hz2 hz4
  clear hb0
  have cs0 := fun W (hb : Below w.heap.size w W) => short_any a1 cap1 z1 W (w1.keep hb) s1.1
  by_cases hS : shrt z1
  rotate_left
  · have cs := fun W hb => cs0 W hb false (by simp [hS])
    clear cs0 hS
    go_enter Try.func3, Try.ntmps3
    go_wp2_with (first
      | (go_at_call 8; ((with_reducible refine (cs _ HB0.out).mono ?_); clear cs; rintro e v1 ⟨rfl, hb1⟩; have HB1 := Lib.hid (pb2 HB0.out hb1); have P1 := Lib.hid (P0.out.keep hb1); clear hb1))
      | (go_at_call 10; ((with_reducible refine (lawake_any _).mono ?_); rintro e wa ⟨rfl, hba⟩; have HBa := Lib.hid (pb2 HB1.out hba); clear hba))
      | fail)
    go_ret
    exact ⟨by simp, HBa.out⟩
  have cs := fun W hb => cs0 W hb true (by simp [hS])
  clear cs0
  by_cases hA : z0.length ≤ 30
  rotate_left
  · have h3 : (30 : Int) < (z0.length : Int) := by omega
    clear hA
    go_enter Try.func3, Try.ntmps3
    go_wp2_with (first
      | (go_at_call 8; ((with_reducible refine (cs _ HB0.out).mono ?_); clear cs; rintro e v1 ⟨rfl, hb1⟩; have HB1 := Lib.hid (pb2 HB0.out hb1); have P1 := Lib.hid (P0.out.keep hb1); clear hb1))
      | (go_at_call 10; ((with_reducible refine (lawake_any _).mono ?_); rintro e wa ⟨rfl, hba⟩; have HBa := Lib.hid (pb2 HB1.out hba); clear hba))
      | fail)
    go_ret
    exact ⟨by simp, HBa.out⟩
  have h3 : ¬ (30 : Int) < (z0.length : Int) := by omega
  have hN2 : z1.length ≤ 200 := hS.1.1
  have hps : ∀ e ∈ z1, e.a.ps.length ≤ 1100000 := fun e he => Nat.le_trans (hS.1.ps e he) (by decide)
  have hwd : ∀ e ∈ z1, i64w e.o.v := fun e he => op_w (s1.2 e he)
  have cA0 := fun W (hb : Below w.heap.size w W) B hB => any_any a0 a1 cap0 cap1 z0 z1 W (w0.below hb) (w1.keep hb) (by omega) (by omega) hps (rng_w r0) hwd B hB
  by_cases hO : okF z0 z1 ∧ ∃ l, ordR z0 z1 l
  rotate_left
  · have cA := fun W hb => cA0 W hb false (by simp [hO])
    clear cA0 hO hS hps hN2
    go_enter Try.func3, Try.ntmps3
    go_wp2_with (first
      | (go_at_call 8; ((with_reducible refine (cs _ HB0.out).mono ?_); clear cs; rintro e v1 ⟨rfl, hb1⟩; have HB1 := Lib.hid (pb2 HB0.out hb1); have P1 := Lib.hid (P0.out.keep hb1); clear hb1))
      | (go_at_call 9; ((with_reducible refine (cA _ HB1.out).mono ?_); clear cA; rintro e v2 ⟨rfl, hb2⟩; have HB2 := Lib.hid (pb2 HB1.out hb2); have P2 := Lib.hid (P1.out.keep hb2); clear hb2))
      | (go_at_call 10; ((with_reducible refine (lawake_any _).mono ?_); rintro e wa ⟨rfl, hba⟩; have HBa := Lib.hid (pb2 HB2.out hba); clear hba))
      | fail)
    go_ret
    exact ⟨by simp, HBa.out⟩
  have cA := fun W hb => cA0 W hb true (by simp [hO])
  obtain ⟨⟨hsr, s, hm, hl16⟩, l, hord⟩ := hO
  have hl9 := shrt_len hS hm
  obtain ⟨kn, hk, hum⟩ := umodR a2 ((z1.length : Int) + 1) (by omega) (by omega)
  have hkl : kn ≤ z1.length := by omega
  obtain ⟨htl, hEk⟩ := w1.take kn hkl
  obtain ⟨sk, hsk⟩ := mtc_some (h := z1) (n := z1.length) hm kn hkl
  have hmk : mtch (z1.take kn) = some sk := by rw [mt_take z1 kn hkl]; exact hsk
  have hrg := pre_rgt hsk hm hkl ((ordR_is hsr hm).1 hord)
  have hordk := (ordR_is hsr hmk).2 hrg
  have hlk : sk.l.length ≤ 16 := Nat.le_trans (mtc_ext z1 kn sk hsk z1.length hkl s hm).1 hl16
  have cK := fun W (hb : Below w.heap.size w W) => any_any a0 a1 cap0 cap1 z0 (z1.take kn) W (w0.below hb) (hEk.keep hb) (by omega) (by rw [htl]; omega) (fun e he => hps e (List.mem_of_mem_take he)) (rng_w r0) (fun e he => hwd e (List.mem_of_mem_take he)) true (by simp only [true_iff]; exact ⟨⟨hsr, sk, hmk, hlk⟩, _, hordk⟩)
  rw [htl] at cK
  have hkI : (kn : Int) ≤ (z1.length : Int) := Int.ofNat_le.2 hkl
  have I := minv z1 _ s hm
  have cA1 := fun W (hb : Below w.heap.size w W) ao lc N2 (hE : Es W ao lc N2) (hlen : N2.length ≤ 300) (hp : ∀ e ∈ N2, e.a.ps.length ≤ 1100000) (hw : ∀ e ∈ N2, i64w e.o.v) B hB => any_any a0 ao cap0 lc z0 N2 W (w0.below hb) hE (by omega) hlen hp (rng_w r0) hw B hB
  have HCA := Lib.hid cA1
  have HSCA := Lib.hid (show ∀ t, okT t → okOp o3.c → s.x t = 0 → ∀ N2, z1 ++ [(⟨t, false, o3, zAd⟩ : EvD)] = N2 → okF z0 N2 ∧ ∃ l, ordR z0 N2 l from fun t ht ho hx N2 e => by
    have h1 := snoc_call hm (t := t) (o := o3) ht ho
    rw [if_pos hx, e] at h1
    exact ⟨⟨hsr, _, h1, by show (s.l ++ [_]).length ≤ 16; rw [List.length_append, List.length_singleton]; omega⟩, l, pend_one hord hm h1⟩)
  have HW := Lib.hid w1
  have HWZ := Lib.hid w1z
  have HON := Lib.hid (fun t (ht : okT t) => I.on ht)
  have HPW := Lib.hid (And.intro hps hwd)
  have HO3 := Lib.hid w3
  clear cA0 cA1 hS hps hwd hsr hm hord hmk hrg hordk hlk htl hEk hsk I w0 w1 w1z s1 r0 w2 w3 hl16 hl9
  obtain ⟨Mh, hMe, hMl, hsrc, hpm⟩ := src_evs HW.out HWZ.out
  have HMM := Lib.hid hMe
  have HSRC := Lib.hid hsrc
  have HPM0 := Lib.hid hpm
  have HL1 := Lib.hid (show ([] : List RE).length + Mh.length ≤ 100000 by simp; omega)
  have HL2 := Lib.hid (show ([] : List RE).length + Mh.length = z1.length by simp [hMl])
  have HL3 := Lib.hid (show Mh.length + 1 ≤ 100000 by omega)
  have HL4 := Lib.hid (show Mh.length + 1 = z1.length + 1 by omega)
  clear hMe hsrc hpm hMl
  go_enter Try.func3, Try.ntmps3
  go_upto_region 4 with (first
    | (go_at_call 8; ((with_reducible refine (cs _ HB0.out).mono ?_); clear cs; rintro e v1 ⟨rfl, hb1⟩; have HB1 := Lib.hid (pb2 HB0.out hb1); have P1 := Lib.hid (P0.out.keep hb1); clear hb1))
    | (go_at_call 9; ((with_reducible refine (cA _ HB1.out).mono ?_); clear cA; rintro e v2 ⟨rfl, hb2⟩; have HB2 := Lib.hid (pb2 HB1.out hb2); have P2 := Lib.hid (P1.out.keep hb2); clear hb2))
    | fail)
  rw [hum]
  clear hum hk
  go_upto_region 6 with (first
    | (go_at_call 9; ((with_reducible refine (cK _ HB2.out).mono ?_); clear cK; rintro e v3 ⟨rfl, hb3⟩; have HB3 := Lib.hid (pb2 HB2.out hb3); have P3 := Lib.hid (P2.out.keep hb3); clear hb3))
    | fail)
  go_wp2_with (fail)
  clear HB0 HB1 HB2 P0 P1 P2
  go_loopw [43] (fun i wr => ∃ tn : Nat, tn ≤ 6 ∧ i = .int .i64 tn ∧ Bq wr w.heap.size #[.int .i64 o3.c, .int .i64 o3.k, .int .i64 o3.h, .int .i64 o3.v].toList ∧ Below w.heap.size w wr) (fun i _ => 6 - (intOf i).toNat)
  case atStart => exact ⟨0, Nat.zero_le _, rfl, P3.out, HB3.out⟩
  case round =>
    clear HB3 P3
    obtain ⟨tn, ht6, rfl, hp, hb⟩ := hrel
    have HP := Lib.hid hp
    have HBO := Lib.hid hb
    clear hp hb
    by_cases htn : tn < 6
    rotate_left
    · obtain rfl : tn = 6 := by omega
      go_wp2_with (first
        | (go_at_call 10; ((with_reducible refine (lawake_any _).mono ?_); rintro e wa ⟨rfl, hba⟩; have HBa := Lib.hid (pb2 HBO.out hba); clear hba))
        | fail)
      go_ret
      exact ⟨by simp, HBa.out⟩
    have ht0 : (0 : Int) ≤ (tn : Int) := Int.natCast_nonneg tn
    have htI : (tn : Int) < 6 := by omega
    have hot : okT (tn : Int) := by unfold okT; omega
    have HOT := Lib.hid hot
    clear hot
    obtain ⟨w5, rfl⟩ : ∃ w5, w5 = wr := ⟨_, rfl⟩
    go_wp2_with (fail)
    go_loopw [48, 11] (fun i x wr => ∃ n : Nat, n ≤ z1.length ∧ i = .int .i64 n ∧ x = .bool (decide (¬ onn z1 (tn : Int) n = -1)) ∧ Bq wr w.heap.size #[.int .i64 o3.c, .int .i64 o3.k, .int .i64 o3.h, .int .i64 o3.v].toList ∧ Below w.heap.size w wr) (fun i _ _ => z1.length - (intOf i).toNat)
    case atStart => exact ⟨0, Nat.zero_le _, rfl, rfl, HP.out, HBO.out⟩
    case round =>
      clear HP HBO
      obtain ⟨n, hn, rfl, rfl, hp, hb⟩ := hrel
      have HPR := Lib.hid hp
      have HBR := Lib.hid hb
      by_cases hlt : n < z1.length
      · obtain ⟨x, hx⟩ : ∃ x, z1[n]? = some x := ⟨_, List.getElem?_eq_getElem hlt⟩
        obtain ⟨bb, oo, pa, pc, rfl, hx1⟩ := (HW.out.keep hb).2.2 n x hx
        have hn0 : (0 : Int) ≤ (n : Int) := by omega
        have hnl : (n : Int) < (z1.length : Int) := by omega
        have hgd : z1.getD n zEv = x := by rw [List.getD_eq_getElem?_getD, hx]; rfl
        have HST := Lib.hid (onn_step z1 (tn : Int) n)
        rw [hgd] at HST
        obtain ⟨e0, e1, e2, e3, e4, e5, e6, e7, e8, e9, e10, e11⟩ := hx1.ex
        obtain ⟨t, r, ⟨oc, ok, oh, ov⟩, ⟨ae, ao, ak, av, an, ap⟩⟩ := x
        dsimp only at e0 e1 e2 e3 e4 e5 e6 e7 e8 e9 e10 e11 HST
        have HBn := Lib.hid (pal (w := wr) (.cells #[.int .i64 t, .bool r, .int .i64 oc, .int .i64 ok, .int .i64 oh, .int .i64 ov, .int .i64 ae, .bool ao, .int .i64 ak, .int .i64 av, .int .i64 an, .slice pa ap.length pc] 36))
        clear hx hb hx1 hgd hp
        by_cases hte : t = (tn : Int)
        · subst hte
          go_wp2_with (fail)
          go_roundw
          case rel => exact ⟨n + 1, by omega, by go_num, by rw [HST.out, if_pos rfl], HPR.out.keep HBn.out, pb2 HBR.out HBn.out⟩
          case measure => simp [intOf]; omega
        · go_wp2_with (fail)
          go_roundw
          case rel => exact ⟨n + 1, by omega, by go_num, by rw [HST.out, if_neg hte], HPR.out.keep HBn.out, pb2 HBR.out HBn.out⟩
          case measure => simp [intOf]; omega
      · obtain rfl : n = z1.length := by omega
        clear hp hb
        rcases HON.out (tn : Int) HOT.out with ⟨hx0, hon⟩ | ⟨p, hx0, hon, _⟩
        rotate_left
        · have hd : decide (¬ onn z1 (tn : Int) z1.length = -1) = true := decide_eq_true (by rw [hon]; omega)
          rw [hd]
          clear hd hon hx0
          go_wp2_with (fail)
          go_roundw
          case rel => exact ⟨tn + 1, by omega, by go_num, HPR.out, HBR.out⟩
          case measure => simp [intOf]; omega
        have hd : decide (¬ onn z1 (tn : Int) z1.length = -1) = false := decide_eq_false (by rw [hon]; simp)
        rw [hd]
        clear hd hon
        have p0 := HPR.out.at_ 0 _ rfl
        have p1 := HPR.out.at_ 1 _ rfl
        have p2 := HPR.out.at_ 2 _ rfl
        have p3 := HPR.out.at_ 3 _ rfl
        have hpl := HPR.out.lt
        by_cases hok : okOp o3.c
        rotate_left
        · have cMo := fun W => rmayop_any o3.c o3.k o3.h o3.v W false (decide_eq_false hok)
          go_wp2_with (first
            | (go_at_call 11; ((with_reducible refine (cMo _).mono ?_); clear cMo; rintro e v4 ⟨rfl, hb4⟩; have HB4 := Lib.hid hb4; clear hb4 p0 p1 p2 p3))
            | fail)
          go_roundw
          case rel => exact ⟨tn + 1, by omega, by go_num, HPR.out.keep HB4.out, pb2 HBR.out HB4.out⟩
          case measure => simp [intOf]; omega
        have cMo := fun W => rmayop_any o3.c o3.k o3.h o3.v W true (decide_eq_true hok)
        have HYES := Lib.hid (HSCA.out (tn : Int) HOT.out hok hx0 _ rfl)
        go_upto_region 17 with (first
          | (go_at_call 11; ((with_reducible refine (cMo _).mono ?_); clear cMo; rintro e v4 ⟨rfl, hb4⟩; have HBW := Lib.hid (pb2 HBR.out hb4); have P4 := Lib.hid (HPR.out.keep hb4); clear hb4 p0 p1 p2 p3))
          | fail)
        have cA2 := fun ao2 lc2 W (hE : Es W ao2 lc2 (z1 ++ [(⟨(tn : Int), false, o3, zAd⟩ : EvD)])) (hb : Below v4.heap.size v4 W) => HCA.out W (pb2 HBW.out hb) ao2 lc2 _ hE (by rw [List.length_append, List.length_singleton]; omega) (fun e he => by
          rcases List.mem_append.1 he with h | h
          · exact HPW.out.1 e h
          · rw [List.mem_singleton.1 h]; exact Nat.zero_le _) (fun e he => by
          rcases List.mem_append.1 he with h | h
          · exact HPW.out.2 e h
          · rw [List.mem_singleton.1 h]; exact op_w HO3.out) true (by simp only [true_iff]; exact HYES.out)
        simp only [List.length_append, List.length_singleton] at cA2
        clear hok hx0 HPR HBR
        have p0 := P4.out.at_ 0 _ rfl
        have p1 := P4.out.at_ 1 _ rfl
        have p2 := P4.out.at_ 2 _ rfl
        have p3 := P4.out.at_ 3 _ rfl
        have HPM := Lib.hid (show ∀ m ∈ Mh, Prs v4 m.a m.c m.e.a.ps from fun m hm => (HPM0.out m hm).below HBW.out)
        have HSR := Lib.hid (show ∀ W, Below v4.heap.size v4 W → Source W (.slice a1 z1.length cap1) Mh.length (cellsE Mh) from fun W hb => src_keep HSRC.out (pb2 HBW.out hb))
        refine wp_region_held_drew (S := fun W => W.cell? ⟨w.heap.size, 0, none⟩ = some (.int .i64 o3.c) ∧ W.cell? ⟨w.heap.size, 1, none⟩ = some (.int .i64 o3.k) ∧ W.cell? ⟨w.heap.size, 2, none⟩ = some (.int .i64 o3.h) ∧ W.cell? ⟨w.heap.size, 3, none⟩ = some (.int .i64 o3.v) ∧ Below v4.heap.size v4 W) (by kernel_rfl) (by first | exact ⟨p0, p1, p2, p3, Below.refl _ _⟩ | exact ⟨p0, p1, p2, p3, (Below.refl _ _).drew⟩) (fun hHeld => ?_)
        have HD := Lib.hid hHeld.2.2.2.2
        generalize (World.drew v4 : World) = Wd at hHeld HD ⊢
        refine tkO 0 ?_ rfl (by kernel_rfl) (fun _ _ _ h => h) ⟨by rfl, ?_⟩ hHeld ?_; rotate_left
        · intro wS hSw; (try dsimp only at hSw); (try go_split_ands); go_simp; try with_reducible rfl
        try simp only [List.getElem_toArray, List.getElem_cons_succ, List.getElem_cons_zero, Act.put, List.setIfInBounds_toArray, List.set_cons_zero, List.set_cons_succ]
        refine tkO 2 ?_ rfl (by kernel_rfl) (fun _ _ _ h => h) ⟨by rfl, ?_⟩ hHeld ?_; rotate_left
        · intro wS hSw; (try dsimp only at hSw); (try go_split_ands); go_simp; try with_reducible rfl
        try simp only [List.getElem_toArray, List.getElem_cons_succ, List.getElem_cons_zero, Act.put, List.setIfInBounds_toArray, List.set_cons_zero, List.set_cons_succ]
        refine tkO 4 ?_ rfl (by kernel_rfl) (fun _ _ _ h => h) ⟨by rfl, ?_⟩ hHeld ?_; rotate_left
        · intro wS hSw; (try dsimp only at hSw); (try go_split_ands); go_simp; try with_reducible rfl
        try simp only [List.getElem_toArray, List.getElem_cons_succ, List.getElem_cons_zero, Act.put, List.setIfInBounds_toArray, List.set_cons_zero, List.set_cons_succ]
        refine tkO 5 ?_ rfl (by kernel_rfl) (fun _ _ _ h => h) ⟨by rfl, ?_⟩ hHeld ?_; rotate_left
        · intro wS hSw; (try dsimp only at hSw); (try go_split_ands); go_simp; try with_reducible rfl
        try simp only [List.getElem_toArray, List.getElem_cons_succ, List.getElem_cons_zero, Act.put, List.setIfInBounds_toArray, List.set_cons_zero, List.set_cons_succ]
        refine tkO 6 ?_ rfl (by kernel_rfl) (fun _ _ _ h => h) ⟨by rfl, ?_⟩ hHeld ?_; rotate_left
        · intro wS hSw; (try dsimp only at hSw); (try go_split_ands); go_simp; try with_reducible rfl
        try simp only [List.getElem_toArray, List.getElem_cons_succ, List.getElem_cons_zero, Act.put, List.setIfInBounds_toArray, List.set_cons_zero, List.set_cons_succ]
        refine wpAnyH_ready (rs := [1, 7]) (by kernel_rfl) (by simp) ?_
        refine AllReadyH.cons rfl (fun K hK => ?_) (AllReadyH.cons rfl (fun K hK => ?_) AllReadyH.nil)
        · go_simp
          refine hK.out _ _ ?_ (fun hNext => ?_)
          · exact ⟨pkc (pb2 HD.out (pal _)) p0, pkc (pb2 HD.out (pal _)) p1, pkc (pb2 HD.out (pal _)) p2, pkc (pb2 HD.out (pal _)) p3, (pb2 HD.out (pal _))⟩
          clear hK K hHeld
          have hHeld := hNext
          clear hNext
          try simp only [List.getElem_toArray, List.getElem_cons_succ, List.getElem_cons_zero, Act.put, List.setIfInBounds_toArray, List.set_cons_zero, List.set_cons_succ]
          have T0 := Lib.hid (TW.a0 HD.out)
          replace HD := Lib.hid (pb2 HD.out (pal (.cells #[] 36)))
          have hgl : Wd.heap.size < (Wd.alloc (.cells #[] 36)).heap.size := by simp
          generalize Wd.alloc (.cells #[] 36) = Wa at *
          generalize Wd.heap.size = g0 at *
          refine wpAnyH_ready (rs := [3, 7]) (by kernel_rfl) (by simp) ?_
          refine AllReadyH.cons rfl (fun K hK => ?_) (AllReadyH.cons rfl (fun K hK => ?_) AllReadyH.nil)
          · refine step_tw rfl (.tmp 67) (.tmp 68) rfl v4 (.slice (some ⟨g0, 0, none⟩) 0 0) [] Mh rfl T0.out HPM.out _ rfl (HSR.out _ HD.out) HL1.out z1.length HL2.out ?_
            intro ao1 lc1 Wb hm1 hc1 hT1 hO1 hK1
            have T1 := Lib.hid hT1
            clear hT1 hO1 hK1
            refine hK.out _ _ ?_ (fun hNext => ?_)
            · exact ⟨pkc T1.out.be p0, pkc T1.out.be p1, pkc T1.out.be p2, pkc T1.out.be p3, T1.out.be⟩
            clear hK K hHeld
            have hHeld := hNext
            clear hNext
            try simp only [List.getElem_toArray, List.getElem_cons_succ, List.getElem_cons_zero, Act.put, List.setIfInBounds_toArray, List.set_cons_zero, List.set_cons_succ]
            refine wpAnyH_ready (rs := [7]) (by kernel_rfl) (by simp) ?_
            refine AllReadyH.cons rfl (fun K hK => ?_) AllReadyH.nil
            go_simp
            refine hK.out _ _ ?_ (fun hNext => ?_)
            · exact ⟨pkc (pb2 T1.out.be (pal _)) p0, pkc (pb2 T1.out.be (pal _)) p1, pkc (pb2 T1.out.be (pal _)) p2, pkc (pb2 T1.out.be (pal _)) p3, (pb2 T1.out.be (pal _))⟩
            clear hK K hHeld
            have hHeld := hNext
            clear hNext
            try simp only [List.getElem_toArray, List.getElem_cons_succ, List.getElem_cons_zero, Act.put, List.setIfInBounds_toArray, List.set_cons_zero, List.set_cons_succ]
            have B6 := Lib.hid (Bq.new Wb #[.int .i64 (tn : Int), .bool false, .int .i64 o3.c, .int .i64 o3.k, .int .i64 o3.h, .int .i64 o3.v, .int .i64 0, .bool false, .int .i64 0, .int .i64 0, .int .i64 0, .slice none 0 0] 36)
            replace T1 := Lib.hid (T1.out.keep (pal (.cells #[.int .i64 (tn : Int), .bool false, .int .i64 o3.c, .int .i64 o3.k, .int .i64 o3.h, .int .i64 o3.v, .int .i64 0, .bool false, .int .i64 0, .int .i64 0, .int .i64 0, .slice none 0 0] 36)))
            generalize Wb.alloc (.cells #[.int .i64 (tn : Int), .bool false, .int .i64 o3.c, .int .i64 o3.k, .int .i64 o3.h, .int .i64 o3.v, .int .i64 0, .bool false, .int .i64 0, .int .i64 0, .int .i64 0, .slice none 0 0] 36) = Wc at *
            generalize Wb.heap.size = g6 at *
            refine wpAnyH_ready (rs := [8]) (by kernel_rfl) (by simp) ?_
            refine AllReadyH.cons rfl (fun K hK => ?_) AllReadyH.nil
            refine step_tw rfl (.tmp 69) (.tmp 73) rfl v4 (.slice ao1 z1.length lc1) Mh [⟨⟨(tn : Int), false, o3, zAd⟩, none, 0⟩] rfl T1.out (fun m hm => by rw [List.mem_singleton.1 hm]; exact Prs.nil _) _ rfl (src_ev B6.out) HL3.out (z1.length + 1) HL4.out ?_
            intro ao2 lc2 We hm2 hc2 hT2 hO2 hK2
            have T2 := Lib.hid hT2
            clear hT2 hO2 hK2
            refine hK.out _ _ ?_ (fun hNext => ?_)
            · exact ⟨pkc T2.out.be p0, pkc T2.out.be p1, pkc T2.out.be p2, pkc T2.out.be p3, T2.out.be⟩
            clear hK K hHeld
            have hHeld := hNext
            clear hNext
            try simp only [List.getElem_toArray, List.getElem_cons_succ, List.getElem_cons_zero, Act.put, List.setIfInBounds_toArray, List.set_cons_zero, List.set_cons_succ]
            refine wpAnyH_ready (rs := [9]) (by kernel_rfl) (by simp) ?_
            refine AllReadyH.cons rfl (fun K hK => ?_) AllReadyH.nil
            go_simp
            (go_at_call 9; ((with_reducible refine (cA2 ao2 lc2 _ (by have h := T2.out.es.2; rw [List.map_append, HMM.out, List.map_cons, List.map_nil] at h; exact h) T2.out.be).mono ?_); rintro e Y ⟨rfl, hbY⟩))
            refine hK.out _ _ ?_ (fun hNext => ?_)
            · exact ⟨pkc hbY hHeld.1, pkc hbY hHeld.2.1, pkc hbY hHeld.2.2.1, pkc hbY hHeld.2.2.2.1, pb2 hHeld.2.2.2.2 hbY⟩
            clear hK K hHeld
            have hHeld := hNext
            clear hNext
            try simp only [List.getElem_toArray, List.getElem_cons_succ, List.getElem_cons_zero, Act.put, List.setIfInBounds_toArray, List.set_cons_zero, List.set_cons_succ]
            clear hbY
            refine tkO 10 ?_ rfl (by kernel_rfl) (fun _ _ _ h => h) ⟨by rfl, ?_⟩ hHeld ?_; rotate_left
            · intro wS hSw; (try dsimp only at hSw); (try go_split_ands); go_simp; try with_reducible rfl
            try simp only [List.getElem_toArray, List.getElem_cons_succ, List.getElem_cons_zero, Act.put, List.setIfInBounds_toArray, List.set_cons_zero, List.set_cons_succ]
            refine wpAnyH_ready (rs := [11]) (by kernel_rfl) (by simp) ?_
            refine AllReadyH.cons rfl (fun K hK => ?_) AllReadyH.nil
            go_simp
            (go_at_call 10; ((with_reducible refine (lawake_any _).mono ?_); rintro e Z ⟨rfl, hbZ⟩))
            refine hK.out _ _ ?_ (fun hNext => ?_)
            · exact ⟨pkc hbZ hHeld.1, pkc hbZ hHeld.2.1, pkc hbZ hHeld.2.2.1, pkc hbZ hHeld.2.2.2.1, pb2 hHeld.2.2.2.2 hbZ⟩
            clear hK K hHeld
            have hHeld := hNext
            clear hNext
            try simp only [List.getElem_toArray, List.getElem_cons_succ, List.getElem_cons_zero, Act.put, List.setIfInBounds_toArray, List.set_cons_zero, List.set_cons_succ]
            clear hbZ
            refine tkO 12 ?_ rfl (by kernel_rfl) (fun _ _ _ h => h) ⟨by rfl, ?_⟩ hHeld ?_; rotate_left
            · intro wS hSw; (try dsimp only at hSw); (try go_split_ands); go_simp; try with_reducible rfl
            try simp only [List.getElem_toArray, List.getElem_cons_succ, List.getElem_cons_zero, Act.put, List.setIfInBounds_toArray, List.set_cons_zero, List.set_cons_succ]
            refine tkO 13 ?_ rfl (by kernel_rfl) (fun _ _ _ h => h) ⟨by rfl, ?_⟩ hHeld ?_; rotate_left
            · intro wS hSw; (try dsimp only at hSw); (try go_split_ands); go_simp; try with_reducible rfl
            try simp only [List.getElem_toArray, List.getElem_cons_succ, List.getElem_cons_zero, Act.put, List.setIfInBounds_toArray, List.set_cons_zero, List.set_cons_succ]
            refine wpAnyH_done (by kernel_rfl) ?_ _
            have HFIN := Lib.hid (pb2 HBW.out hHeld.2.2.2.2)
            clear hHeld
            go_wp2_with (fail)
            go_ret
            exact ⟨by rfl, HFIN.out⟩
          · go_simp
            refine hK.out _ _ ?_ (fun hNext => ?_)
            · exact ⟨pkc (pb2 HD.out (pal _)) p0, pkc (pb2 HD.out (pal _)) p1, pkc (pb2 HD.out (pal _)) p2, pkc (pb2 HD.out (pal _)) p3, (pb2 HD.out (pal _))⟩
            clear hK K hHeld
            have hHeld := hNext
            clear hNext
            try simp only [List.getElem_toArray, List.getElem_cons_succ, List.getElem_cons_zero, Act.put, List.setIfInBounds_toArray, List.set_cons_zero, List.set_cons_succ]
            have B6 := Lib.hid (Bq.new Wa #[.int .i64 (tn : Int), .bool false, .int .i64 o3.c, .int .i64 o3.k, .int .i64 o3.h, .int .i64 o3.v, .int .i64 0, .bool false, .int .i64 0, .int .i64 0, .int .i64 0, .slice none 0 0] 36)
            have hne2 : ¬ g0 = Wa.heap.size := by omega
            replace T0 := Lib.hid (T0.out.keep (pal (.cells #[.int .i64 (tn : Int), .bool false, .int .i64 o3.c, .int .i64 o3.k, .int .i64 o3.h, .int .i64 o3.v, .int .i64 0, .bool false, .int .i64 0, .int .i64 0, .int .i64 0, .slice none 0 0] 36)))
            replace HD := Lib.hid (pb2 HD.out (pal (.cells #[.int .i64 (tn : Int), .bool false, .int .i64 o3.c, .int .i64 o3.k, .int .i64 o3.h, .int .i64 o3.v, .int .i64 0, .bool false, .int .i64 0, .int .i64 0, .int .i64 0, .slice none 0 0] 36)))
            generalize Wa.alloc (.cells #[.int .i64 (tn : Int), .bool false, .int .i64 o3.c, .int .i64 o3.k, .int .i64 o3.h, .int .i64 o3.v, .int .i64 0, .bool false, .int .i64 0, .int .i64 0, .int .i64 0, .slice none 0 0] 36) = Wb at *
            generalize Wa.heap.size = g6 at *
            refine wpAnyH_ready (rs := [3]) (by kernel_rfl) (by simp) ?_
            refine AllReadyH.cons rfl (fun K hK => ?_) AllReadyH.nil
            refine step_tw rfl (.tmp 67) (.tmp 68) rfl v4 (.slice (some ⟨g0, 0, none⟩) 0 0) [] Mh rfl T0.out HPM.out _ rfl (HSR.out _ HD.out) HL1.out z1.length HL2.out ?_
            intro ao1 lc1 Wc hm1 hc1 hT1 hO1 hK1
            have T1 := Lib.hid hT1
            replace B6 := Lib.hid (B6.out.only hO1 (fun x => hne2 (by simpa [Value.ownBlock] using x)))
            clear hT1 hO1 hK1
            refine hK.out _ _ ?_ (fun hNext => ?_)
            · exact ⟨pkc T1.out.be p0, pkc T1.out.be p1, pkc T1.out.be p2, pkc T1.out.be p3, T1.out.be⟩
            clear hK K hHeld
            have hHeld := hNext
            clear hNext
            try simp only [List.getElem_toArray, List.getElem_cons_succ, List.getElem_cons_zero, Act.put, List.setIfInBounds_toArray, List.set_cons_zero, List.set_cons_succ]
            refine wpAnyH_ready (rs := [8]) (by kernel_rfl) (by simp) ?_
            refine AllReadyH.cons rfl (fun K hK => ?_) AllReadyH.nil
            refine step_tw rfl (.tmp 69) (.tmp 73) rfl v4 (.slice ao1 z1.length lc1) Mh [⟨⟨(tn : Int), false, o3, zAd⟩, none, 0⟩] rfl T1.out (fun m hm => by rw [List.mem_singleton.1 hm]; exact Prs.nil _) _ rfl (src_ev B6.out) HL3.out (z1.length + 1) HL4.out ?_
            intro ao2 lc2 We hm2 hc2 hT2 hO2 hK2
            have T2 := Lib.hid hT2
            clear hT2 hO2 hK2
            refine hK.out _ _ ?_ (fun hNext => ?_)
            · exact ⟨pkc T2.out.be p0, pkc T2.out.be p1, pkc T2.out.be p2, pkc T2.out.be p3, T2.out.be⟩
            clear hK K hHeld
            have hHeld := hNext
            clear hNext
            try simp only [List.getElem_toArray, List.getElem_cons_succ, List.getElem_cons_zero, Act.put, List.setIfInBounds_toArray, List.set_cons_zero, List.set_cons_succ]
            refine wpAnyH_ready (rs := [9]) (by kernel_rfl) (by simp) ?_
            refine AllReadyH.cons rfl (fun K hK => ?_) AllReadyH.nil
            go_simp
            (go_at_call 9; ((with_reducible refine (cA2 ao2 lc2 _ (by have h := T2.out.es.2; rw [List.map_append, HMM.out, List.map_cons, List.map_nil] at h; exact h) T2.out.be).mono ?_); rintro e Y ⟨rfl, hbY⟩))
            refine hK.out _ _ ?_ (fun hNext => ?_)
            · exact ⟨pkc hbY hHeld.1, pkc hbY hHeld.2.1, pkc hbY hHeld.2.2.1, pkc hbY hHeld.2.2.2.1, pb2 hHeld.2.2.2.2 hbY⟩
            clear hK K hHeld
            have hHeld := hNext
            clear hNext
            try simp only [List.getElem_toArray, List.getElem_cons_succ, List.getElem_cons_zero, Act.put, List.setIfInBounds_toArray, List.set_cons_zero, List.set_cons_succ]
            clear hbY
            refine tkO 10 ?_ rfl (by kernel_rfl) (fun _ _ _ h => h) ⟨by rfl, ?_⟩ hHeld ?_; rotate_left
            · intro wS hSw; (try dsimp only at hSw); (try go_split_ands); go_simp; try with_reducible rfl
            try simp only [List.getElem_toArray, List.getElem_cons_succ, List.getElem_cons_zero, Act.put, List.setIfInBounds_toArray, List.set_cons_zero, List.set_cons_succ]
            refine wpAnyH_ready (rs := [11]) (by kernel_rfl) (by simp) ?_
            refine AllReadyH.cons rfl (fun K hK => ?_) AllReadyH.nil
            go_simp
            (go_at_call 10; ((with_reducible refine (lawake_any _).mono ?_); rintro e Z ⟨rfl, hbZ⟩))
            refine hK.out _ _ ?_ (fun hNext => ?_)
            · exact ⟨pkc hbZ hHeld.1, pkc hbZ hHeld.2.1, pkc hbZ hHeld.2.2.1, pkc hbZ hHeld.2.2.2.1, pb2 hHeld.2.2.2.2 hbZ⟩
            clear hK K hHeld
            have hHeld := hNext
            clear hNext
            try simp only [List.getElem_toArray, List.getElem_cons_succ, List.getElem_cons_zero, Act.put, List.setIfInBounds_toArray, List.set_cons_zero, List.set_cons_succ]
            clear hbZ
            refine tkO 12 ?_ rfl (by kernel_rfl) (fun _ _ _ h => h) ⟨by rfl, ?_⟩ hHeld ?_; rotate_left
            · intro wS hSw; (try dsimp only at hSw); (try go_split_ands); go_simp; try with_reducible rfl
            try simp only [List.getElem_toArray, List.getElem_cons_succ, List.getElem_cons_zero, Act.put, List.setIfInBounds_toArray, List.set_cons_zero, List.set_cons_succ]
            refine tkO 13 ?_ rfl (by kernel_rfl) (fun _ _ _ h => h) ⟨by rfl, ?_⟩ hHeld ?_; rotate_left
            · intro wS hSw; (try dsimp only at hSw); (try go_split_ands); go_simp; try with_reducible rfl
            try simp only [List.getElem_toArray, List.getElem_cons_succ, List.getElem_cons_zero, Act.put, List.setIfInBounds_toArray, List.set_cons_zero, List.set_cons_succ]
            refine wpAnyH_done (by kernel_rfl) ?_ _
            have HFIN := Lib.hid (pb2 HBW.out hHeld.2.2.2.2)
            clear hHeld
            go_wp2_with (fail)
            go_ret
            exact ⟨by rfl, HFIN.out⟩
        · go_simp
          refine hK.out _ _ ?_ (fun hNext => ?_)
          · exact ⟨pkc (pb2 HD.out (pal _)) p0, pkc (pb2 HD.out (pal _)) p1, pkc (pb2 HD.out (pal _)) p2, pkc (pb2 HD.out (pal _)) p3, (pb2 HD.out (pal _))⟩
          clear hK K hHeld
          have hHeld := hNext
          clear hNext
          try simp only [List.getElem_toArray, List.getElem_cons_succ, List.getElem_cons_zero, Act.put, List.setIfInBounds_toArray, List.set_cons_zero, List.set_cons_succ]
          have B6 := Lib.hid (Bq.new Wd #[.int .i64 (tn : Int), .bool false, .int .i64 o3.c, .int .i64 o3.k, .int .i64 o3.h, .int .i64 o3.v, .int .i64 0, .bool false, .int .i64 0, .int .i64 0, .int .i64 0, .slice none 0 0] 36)
          replace HD := Lib.hid (pb2 HD.out (pal (.cells #[.int .i64 (tn : Int), .bool false, .int .i64 o3.c, .int .i64 o3.k, .int .i64 o3.h, .int .i64 o3.v, .int .i64 0, .bool false, .int .i64 0, .int .i64 0, .int .i64 0, .slice none 0 0] 36)))
          generalize Wd.alloc (.cells #[.int .i64 (tn : Int), .bool false, .int .i64 o3.c, .int .i64 o3.k, .int .i64 o3.h, .int .i64 o3.v, .int .i64 0, .bool false, .int .i64 0, .int .i64 0, .int .i64 0, .slice none 0 0] 36) = Wa at *
          generalize Wd.heap.size = g6 at *
          refine wpAnyH_ready (rs := [1]) (by kernel_rfl) (by simp) ?_
          refine AllReadyH.cons rfl (fun K hK => ?_) AllReadyH.nil
          go_simp
          refine hK.out _ _ ?_ (fun hNext => ?_)
          · exact ⟨pkc (pb2 HD.out (pal _)) p0, pkc (pb2 HD.out (pal _)) p1, pkc (pb2 HD.out (pal _)) p2, pkc (pb2 HD.out (pal _)) p3, (pb2 HD.out (pal _))⟩
          clear hK K hHeld
          have hHeld := hNext
          clear hNext
          try simp only [List.getElem_toArray, List.getElem_cons_succ, List.getElem_cons_zero, Act.put, List.setIfInBounds_toArray, List.set_cons_zero, List.set_cons_succ]
          have T0 := Lib.hid (TW.a0 HD.out)
          have hne := B6.out.lt
          have hne2 : ¬ Wa.heap.size = g6 := by omega
          clear hne
          replace B6 := Lib.hid (B6.out.keep (pal (.cells #[] 36)))
          replace HD := Lib.hid (pb2 HD.out (pal (.cells #[] 36)))
          have hgl : Wa.heap.size < (Wa.alloc (.cells #[] 36)).heap.size := by simp
          generalize Wa.alloc (.cells #[] 36) = Wb at *
          generalize Wa.heap.size = g0 at *
          refine wpAnyH_ready (rs := [3]) (by kernel_rfl) (by simp) ?_
          refine AllReadyH.cons rfl (fun K hK => ?_) AllReadyH.nil
          refine step_tw rfl (.tmp 67) (.tmp 68) rfl v4 (.slice (some ⟨g0, 0, none⟩) 0 0) [] Mh rfl T0.out HPM.out _ rfl (HSR.out _ HD.out) HL1.out z1.length HL2.out ?_
          intro ao1 lc1 Wc hm1 hc1 hT1 hO1 hK1
          have T1 := Lib.hid hT1
          replace B6 := Lib.hid (B6.out.only hO1 (fun x => hne2 (by simpa [Value.ownBlock] using x)))
          clear hT1 hO1 hK1
          refine hK.out _ _ ?_ (fun hNext => ?_)
          · exact ⟨pkc T1.out.be p0, pkc T1.out.be p1, pkc T1.out.be p2, pkc T1.out.be p3, T1.out.be⟩
          clear hK K hHeld
          have hHeld := hNext
          clear hNext
          try simp only [List.getElem_toArray, List.getElem_cons_succ, List.getElem_cons_zero, Act.put, List.setIfInBounds_toArray, List.set_cons_zero, List.set_cons_succ]
          refine wpAnyH_ready (rs := [8]) (by kernel_rfl) (by simp) ?_
          refine AllReadyH.cons rfl (fun K hK => ?_) AllReadyH.nil
          refine step_tw rfl (.tmp 69) (.tmp 73) rfl v4 (.slice ao1 z1.length lc1) Mh [⟨⟨(tn : Int), false, o3, zAd⟩, none, 0⟩] rfl T1.out (fun m hm => by rw [List.mem_singleton.1 hm]; exact Prs.nil _) _ rfl (src_ev B6.out) HL3.out (z1.length + 1) HL4.out ?_
          intro ao2 lc2 We hm2 hc2 hT2 hO2 hK2
          have T2 := Lib.hid hT2
          clear hT2 hO2 hK2
          refine hK.out _ _ ?_ (fun hNext => ?_)
          · exact ⟨pkc T2.out.be p0, pkc T2.out.be p1, pkc T2.out.be p2, pkc T2.out.be p3, T2.out.be⟩
          clear hK K hHeld
          have hHeld := hNext
          clear hNext
          try simp only [List.getElem_toArray, List.getElem_cons_succ, List.getElem_cons_zero, Act.put, List.setIfInBounds_toArray, List.set_cons_zero, List.set_cons_succ]
          refine wpAnyH_ready (rs := [9]) (by kernel_rfl) (by simp) ?_
          refine AllReadyH.cons rfl (fun K hK => ?_) AllReadyH.nil
          go_simp
          (go_at_call 9; ((with_reducible refine (cA2 ao2 lc2 _ (by have h := T2.out.es.2; rw [List.map_append, HMM.out, List.map_cons, List.map_nil] at h; exact h) T2.out.be).mono ?_); rintro e Y ⟨rfl, hbY⟩))
          refine hK.out _ _ ?_ (fun hNext => ?_)
          · exact ⟨pkc hbY hHeld.1, pkc hbY hHeld.2.1, pkc hbY hHeld.2.2.1, pkc hbY hHeld.2.2.2.1, pb2 hHeld.2.2.2.2 hbY⟩
          clear hK K hHeld
          have hHeld := hNext
          clear hNext
          try simp only [List.getElem_toArray, List.getElem_cons_succ, List.getElem_cons_zero, Act.put, List.setIfInBounds_toArray, List.set_cons_zero, List.set_cons_succ]
          clear hbY
          refine tkO 10 ?_ rfl (by kernel_rfl) (fun _ _ _ h => h) ⟨by rfl, ?_⟩ hHeld ?_; rotate_left
          · intro wS hSw; (try dsimp only at hSw); (try go_split_ands); go_simp; try with_reducible rfl
          try simp only [List.getElem_toArray, List.getElem_cons_succ, List.getElem_cons_zero, Act.put, List.setIfInBounds_toArray, List.set_cons_zero, List.set_cons_succ]
          refine wpAnyH_ready (rs := [11]) (by kernel_rfl) (by simp) ?_
          refine AllReadyH.cons rfl (fun K hK => ?_) AllReadyH.nil
          go_simp
          (go_at_call 10; ((with_reducible refine (lawake_any _).mono ?_); rintro e Z ⟨rfl, hbZ⟩))
          refine hK.out _ _ ?_ (fun hNext => ?_)
          · exact ⟨pkc hbZ hHeld.1, pkc hbZ hHeld.2.1, pkc hbZ hHeld.2.2.1, pkc hbZ hHeld.2.2.2.1, pb2 hHeld.2.2.2.2 hbZ⟩
          clear hK K hHeld
          have hHeld := hNext
          clear hNext
          try simp only [List.getElem_toArray, List.getElem_cons_succ, List.getElem_cons_zero, Act.put, List.setIfInBounds_toArray, List.set_cons_zero, List.set_cons_succ]
          clear hbZ
          refine tkO 12 ?_ rfl (by kernel_rfl) (fun _ _ _ h => h) ⟨by rfl, ?_⟩ hHeld ?_; rotate_left
          · intro wS hSw; (try dsimp only at hSw); (try go_split_ands); go_simp; try with_reducible rfl
          try simp only [List.getElem_toArray, List.getElem_cons_succ, List.getElem_cons_zero, Act.put, List.setIfInBounds_toArray, List.set_cons_zero, List.set_cons_succ]
          refine tkO 13 ?_ rfl (by kernel_rfl) (fun _ _ _ h => h) ⟨by rfl, ?_⟩ hHeld ?_; rotate_left
          · intro wS hSw; (try dsimp only at hSw); (try go_split_ands); go_simp; try with_reducible rfl
          try simp only [List.getElem_toArray, List.getElem_cons_succ, List.getElem_cons_zero, Act.put, List.setIfInBounds_toArray, List.set_cons_zero, List.set_cons_succ]
          refine wpAnyH_done (by kernel_rfl) ?_ _
          have HFIN := Lib.hid (pb2 HBW.out hHeld.2.2.2.2)
          clear hHeld
          go_wp2_with (fail)
          go_ret
          exact ⟨by rfl, HFIN.out⟩

set_option maxRecDepth 100000 in
theorem lifted (os : Os) (started : os.Started) (H : Type) (enc : TypeId × Value → H) :
    ReturnsInHanded {} Try.checked os 3 .any (Rows.linCutSpec.pre6 enc Try.prog Try.f3 Rows.linCutRow.domain false) (Rows.linCutSpec.post enc Try.prog Try.f3 false true false false) := by
  refine returnsInHanded_of_change_sized (C := Try.checked) own started (by kernel_rfl) Try.func3
    (ChangeSpec.witness6 (enc := enc) (C := Try.checked) false ⟨#[], #[.slice none 0 0, .slice none 0 0, .int .i64 0, .agg #[.int .i64 0, .int .i64 0, .int .i64 0, .int .i64 0]], []⟩ 8 (by kernel_rfl) (by kernel_rfl) (by kernel_rfl) (by kernel_rfl)) ?_
  intro W base args ds gs before hval0 hW hcnd hsz _
  have hval : ∀ (j : Nat) t v, Try.f3.params[j]? = some t → args[j]? = some v → Value.okWide Try.prog W .any base t v := hval0
  have hW' := hW
  obtain ⟨p, q, hA0, hV, rfl, hfz, hnd⟩ := hW
  have hA : DataW.TrodAll enc Try.prog W 0 (fun _ => true) true Try.f3.params.toList args.toList ds p := hA0
  rw [Try.params3] at hA hval
  obtain ⟨v0, vs0, d0, ds0, p0, q0, hargs, rfl, rfl, h0, r0⟩ := trodAll_cons hA
  obtain ⟨v1, vs1, d1, ds1, p1, q1, rfl, rfl, rfl, h1, r1⟩ := trodAll_cons r0
  obtain ⟨v2, vs2, d2, ds2, p2, q2, rfl, rfl, rfl, h2, r2⟩ := trodAll_cons r1
  obtain ⟨v3, vs3, d3, ds3, p3, q3, rfl, rfl, rfl, h3, r3⟩ := trodAll_cons r2
  obtain ⟨rfl, rfl, rfl⟩ := trodAll_nil r3
  obtain rfl : args = #[v0, v1, v2, v3] := by cases args; simp_all
  obtain ⟨rfl, rfl⟩ := trodVars_none hV
  have k0 := h0
  have lt0 : ∀ x ∈ p0, x.block < W.heap.size := by obtain ⟨m, hm⟩ := k0; exact DataW.trod_lt m _ _ _ hm
  obtain ⟨b0, l0, c0, rfl⟩ := okWide_slice Try.underlying22 (hval 0 22 v0 rfl rfl)
  obtain ⟨a0, cap0, z0, e0, w0, g0⟩ := open_pairsw (enc := enc) (w := W) (v := .slice b0 l0 c0) (fuel := h0.choose) (by simpa [Value.cells] using h0.choose_spec)
  rw [e0] at hval k0 h0 hW' hval0 hA0
  have k1 := h1
  have lt1 : ∀ x ∈ p1, x.block < W.heap.size := by obtain ⟨m, hm⟩ := k1; exact DataW.trod_lt m _ _ _ hm
  obtain ⟨b1, l1, c1, rfl⟩ := okWide_slice Try.underlying23 (hval 1 23 v1 rfl rfl)
  obtain ⟨a1, cap1, z1, e1, w1, s1⟩ := open_eventsw (enc := enc) (w := W) (v := .slice b1 l1 c1) (fuel := h1.choose) (by simpa [Value.cells] using h1.choose_spec) (fun n hn => by simpa using List.all_eq_true.1 hsz n (DataW.weights_mem_each (j := 1) rfl rfl n hn))
  rw [e1] at hval k1 h1 hW' hval0 hA0
  have k2 := h2
  have lt2 : ∀ x ∈ p2, x.block < W.heap.size := by obtain ⟨m, hm⟩ := k2; exact DataW.trod_lt m _ _ _ hm
  obtain ⟨a2, rfl, rfl, rfl, w2⟩ := open_int Try.underlying3 (hval 2 3 v2 rfl rfl) h2
  have k3 := h3
  have lt3 : ∀ x ∈ p3, x.block < W.heap.size := by obtain ⟨m, hm⟩ := k3; exact DataW.trod_lt m _ _ _ hm
  obtain ⟨u3, rfl, _⟩ := okWide_struct Try.underlying25 (hval 3 25 v3 rfl rfl)
  obtain ⟨o3, e3, w3⟩ := fields_op (enc := enc) (w := W) (cs := u3.toList) (fuel := h3.choose) (by simpa [Value.cells] using h3.choose_spec)
  obtain rfl : u3 = #[.int .i64 o3.c, .int .i64 o3.k, .int .i64 o3.h, .int .i64 o3.v] := by cases u3; simp_all
  clear hA0 hval0
  rw [e0]; rw [e1]; refine (walk a0 cap0 z0 a1 cap1 z1 a2 o3 W w0 g0 w1 s1 w2 w3).mono fun e W' ⟨he, bel⟩ => ?_
  subst he
  exact ⟨_, rfl, _, _, _, [], _, [], hW', trodAll_mk1 (shut_bool Try.underlying4 _), (trodAll_cons_mk (Below.trod laidOut (by kernel_rfl) (of_decide_eq_true (by kernel_rfl)) k0 bel lt0) (trodAll_cons_mk (Below.trod laidOut (by kernel_rfl) (of_decide_eq_true (by kernel_rfl)) k1 bel lt1) (trodAll_cons_mk (Below.trod laidOut (by kernel_rfl) (of_decide_eq_true (by kernel_rfl)) k2 bel lt2) (trodAll_cons_mk (Below.trod laidOut (by kernel_rfl) (of_decide_eq_true (by kernel_rfl)) k3 bel lt3) trodAll_mk0)))), rfl, bel.frame _, fun h => by cases h⟩

theorem over : Rows.linCutRow.holds Try.pinned (OpenSpec.ofChange Rows.linCutSpec) :=
  OpenClaim.holds_of_wide 3 Try.f3 rfl rfl rfl rfl rfl rfl rfl ⟨rfl, rfl, rfl, rfl, rfl⟩ rfl rfl rfl rfl rfl (by kernel_rfl) Try.func3 (by kernel_rfl)
    (of_decide_eq_true (by kernel_rfl)) (by unfold Func.isWrapper; first | (rw [if_pos (by decide +kernel)]; kernel_rfl) | (rw [if_neg (by decide +kernel)]; exact ⟨rfl, rfl⟩))
    (fun os started H enc _ => lifted os started H enc)

theorem linCutHolds : Rows.LinCutSaid := over
#print axioms linCutHolds
end Go.Proofs.Ytadfnbmogobopaa.linCut
