/- 'osierlaw7.PartForms' returns true for every argument. No condition. -/
import Derived.Test.YtdonidohmenccaaRows
import Derived.Test.YtdonidohmenccaaPaAwk
import Derived.Test.YtdonidohmenccaaPaR
import Derived.Test.YtdonidohmenccaaNArgs
import Derived.Test.YtdonidohmenccaaNSays
import Derived.LoopTactic
import Derived.WalkKit
import Derived.ProofKit
import Derived.OpenShut
import Derived.ChangeOld
import Derived.Below
namespace Go.Proofs.Ytdonidohmenccaa.partForms
open Go.ChangeShapes Go.WideShapes Go.ChangeAt Go.RowKit
set_option linter.all false

theorem own : ownKnob Try.prog.godebug = none := by kernel_rfl
theorem laidOut : laidOutB Try.prog = true := by kernel_rfl

theorem says_is {p : Nat} {F : Nat → Prop} {room st : Int} {L : List It} {t : Int} {l : List Pr} (T : Tree L t l) {a : Option Addr} {cap n : Nat} {w : World} (hP : Prs w a cap l) (hA : Arena w p F room st L) (hl : l.length ≤ 1000) (hn : l.length = n) :
    Calls Try.prog 20 #[.pointer (some ⟨p, 0, none⟩), .int .i64 t, .slice a n cap] w fun e w' => e = .returned (.int .i64 0) ∧ Below w.heap.size w w' := by
  subst hn; exact says_any p F room st L t l T a cap w hP hA hl

set_option maxRecDepth 100000 in
set_option maxHeartbeats 25600000 in
theorem walk (a0 : Option Addr) (cap0 : Nat) (z0 : List Pr) (a1 : Int) (w : World) (w0 : Prs w a0 cap0 z0) (r0 : Rng z0) (w1 : (Lit.int .i64 a1).wf = true) :
    Calls Try.prog 8 #[.slice a0 z0.length cap0, .int .i64 a1] w fun e w' => e = .returned (.bool true) ∧ Below w.heap.size w w' := by
  have cp : ∀ W, Below w.heap.size w W → Calls Try.prog 12 #[.slice a0 z0.length cap0, .int .i64 50] W (PairsAt W 50) := fun W hb => pairs_at a0 cap0 z0 50 W (w0.below hb) r0 (by omega)
  clear w0 r0
  go_enter Try.func8, Try.ntmps8
  go_wp2_with (fail)
  refine (cp _ (Below.refl _ _)).mono ?_
  clear cp
  rintro e W2 ⟨ao, c, l, rfl, hl, hs, hr, hP, hform, hbw⟩
  have HBW := Lib.hid hbw
  have HP := Lib.hid hP
  have HS := Lib.hid hs
  have FORM := Lib.hid hform
  have hhi := hi_le _ l (Nat.le_refl _)
  obtain ⟨H, hH⟩ : ∃ H : Nat, hi l = H := ⟨_, rfl⟩
  rw [hH] at hhi
  have hH50 : (H : Int) ≤ 50 := by omega
  have HH := Lib.hid hH
  have hc1 := hP.1
  have hc2 := hP.2.1
  unfold maxLen at hc2
  clear hP hs hr hbw hform hH
  go_wp2_with (fail)
  refine (new_held 400 400 W2 _ (Below.refl _ _) (by decide)).mono ?_
  rintro e W3 ⟨p, rfl, h1⟩
  go_wp2_with (fail)
  refine (laid_any W2 p _ _ _ ao c l _ [] (Nat.le_refl _) HP.out h1 Good.nil (by simp; omega) (by omega)).mono ?_
  rintro e W4 ⟨t, L, rfl, h4, n4, t4, g4⟩
  rw [List.nil_append] at h4 t4
  have T4 := Lib.hid t4
  have N4 := Lib.hid n4
  clear t4 g4 h1 n4
  go_wp2_with (fail)
  go_loopw [9] (fun v wr => ∃ n : Nat, n ≤ l.length ∧ v = .int .i64 n ∧ (∀ z ∈ l.take n, z.1 < a1) ∧ Held W2 wr p 400 0 L) (fun v _ => l.length - (intOf v).toNat)
  case atStart => exact ⟨0, Nat.zero_le _, rfl, fun z hz => by simp at hz, h4⟩
  case round =>
    clear h4
    obtain ⟨nn, hn, rfl, hb, hHe⟩ := hrel
    have HB := Lib.hid hb
    have h4 := hHe
    clear hb hHe
    by_cases hlt : nn < l.length
    · obtain ⟨q, hq⟩ : ∃ q, l[nn]? = some q := ⟨_, List.getElem?_eq_getElem hlt⟩
      have hcn : ¬ c = nn := by omega
      obtain ⟨b, o, rfl, c0, c1⟩ := HP.out.2.2 nn q hq
      obtain ⟨x0, x1⟩ := q
      dsimp only at c0 c1
      have HQ := Lib.hid hq
      have d0 := h4.old c0
      clear c0 c1 hq
      by_cases g2 : x0 < a1
      · have hB2 := Lib.hid (show ∀ z ∈ l.take (nn + 1), z.1 < a1 by
          rw [List.take_succ, HQ.out]
          intro z hz
          rcases List.mem_append.1 hz with hz | hz
          · exact HB.out z hz
          · simp at hz; subst hz; exact g2)
        go_wp2_with (fail)
        go_roundw
        case rel => exact ⟨nn + 1, by omega, by go_num, hB2.out, h4⟩
        case measure => simp [intOf]; omega
      · have hD := Lib.hid (show ∀ z ∈ l.drop nn, a1 ≤ z.1 by
          intro z hz
          obtain ⟨j, hj⟩ := List.getElem?_of_mem hz
          rw [List.getElem?_drop] at hj
          rcases Nat.eq_zero_or_pos j with rfl | h
          · rw [Nat.add_zero, HQ.out] at hj; cases hj; omega
          · have := HS.out.at nn (nn + j) _ _ (by omega) HQ.out hj
            dsimp only at this; omega)
        have EX := Lib.hid (lo_at HB.out hD.out)
        have EY := Lib.hid (ge_at HB.out hD.out)
        have PT := Lib.hid (prs_take HP.out (nn) (by omega))
        obtain ⟨aD, hdl, hPD, hDc⟩ := prs_drop HP.out nn (by omega)
        obtain ⟨_, rfl⟩ := hDc.resolve_left (fun h => hcn h.1)
        have PD := Lib.hid hPD
        have DL := Lib.hid hdl
        clear hPD hDc hdl
        clear HB hD
        go_wp2_with (go_at_call 15; ((with_reducible refine (used_held h4 (l.length : Int) (by rw [N4.out])).mono ?_); rintro e W5 ⟨rfl, hww⟩; subst hww))
        refine (part_ok h4 T4.out HS.out (by omega) (by rw [N4.out, HH.out]; omega) a1).mono ?_
        rintro e W5 ⟨x, y, M, rfl, h5, hM, hX, hY⟩
        rw [EX.out] at hX
        rw [EY.out] at hY
        rw [HH.out] at hM
        have TX := Lib.hid hX
        have TY := Lib.hid hY
        have TM := Lib.hid (T4.out.app M)
        obtain ⟨nu, hnu⟩ : ∃ nu : Int, nu = ((L ++ M).length : Nat) := ⟨_, rfl⟩
        have hnu0 : (l.length : Int) ≤ nu := by rw [hnu, List.length_append, N4.out]; omega
        have hnu1 : nu ≤ 100 := by rw [hnu, List.length_append, N4.out]; omega
        have hnd : decide ((H : Int) < nu - (l.length : Int)) = false := by rw [decide_eq_false_iff_not, hnu, List.length_append, N4.out]; omega
        have L5 := Lib.hid (show (L ++ M).length ≤ 100 by rw [List.length_append, N4.out]; omega)
        have NU := Lib.hid hnu
        clear hM hX hY h4 hnu
        generalize L ++ M = LL at h5 TX TY TM NU L5
        go_wp2_with (fail)
        refine (says_is TX.out (PT.out.2.below h5.b) h5.a (by rw [PT.out.1]; omega) PT.out.1).mono ?_
        rintro e W6 ⟨rfl, hb6⟩
        have h6 := h5.below hb6
        clear hb6 h5
        go_wp2_with (fail)
        refine (says_is TY.out (PD.out.below h6.b) h6.a (by rw [DL.out]; omega) DL.out).mono ?_
        rintro e W7 ⟨rfl, hb7⟩
        have h7 := h6.below hb7
        clear hb7 h6
        go_wp2_with (go_at_call 15; ((with_reducible refine (used_held h7 nu NU.out).mono ?_); rintro e W8 ⟨rfl, hww⟩; subst hww))
        have ch := high_any l.length _ c l W7 (Nat.le_refl _) (HP.out.below h7.b) (by omega)
        rw [HH.out] at ch
        refine ch.mono ?_
        clear ch
        rintro e W8 ⟨rfl, hb8⟩
        have h8 := h7.below hb8
        clear hb8 h7
        by_cases h2 : l.length < 2
        · have hd2 : decide ((l.length : Int) < 2) = true := by rw [decide_eq_true_iff]; omega
          have HF := Lib.hid h2
          clear h2
          go_wp2_with (first
            | (go_at_call 30; ((with_reducible refine (mid_none h8.a TM.out HF.out).mono ?_); rintro e W9 ⟨rfl, hb9⟩; have h9 := h8.below hb9; clear hb9 h8))
            | (go_at_call 31; ((with_reducible refine (half_none h9.a TM.out HF.out).mono ?_); rintro e W10 ⟨rfl, hb10⟩; have h10 := h9.below hb10; clear hb10 h9))
            | (go_at_call 32; ((with_reducible refine (hawake_any W10).mono ?_); rintro e W14 ⟨rfl, hb14⟩; have h14 := h10.below hb14; clear hb14 h10)))
          go_ret
          exact ⟨rfl, HBW.out.trans (h14.b.mono HBW.out.size)⟩
        · have hd2 : decide ((l.length : Int) < 2) = false := by rw [decide_eq_false_iff_not]; omega
          obtain ⟨⟨k, v⟩, hq9⟩ : ∃ q, l[l.length / 2]? = some q := ⟨_, List.getElem?_eq_getElem (by omega)⟩
          have QK := Lib.hid hq9
          obtain ⟨hh, hhe⟩ : ∃ hh : Nat, l.length / 2 = hh := ⟨_, rfl⟩
          obtain ⟨b9, o9, e9, c8, c9⟩ := HP.out.2.2 _ _ hq9
          cases e9
          dsimp only at c8 c9
          have H2 := Lib.hid (show 2 ≤ l.length by omega)
          have PT2 := Lib.hid (prs_take HP.out hh (by omega))
          obtain ⟨aE, hel, hPE, hEc⟩ := prs_drop HP.out hh (by omega)
          have hch : ¬ c = hh := by omega
          obtain ⟨_, rfl⟩ := hEc.resolve_left (fun h => hch h.1)
          have PE := Lib.hid hPE
          have EL := Lib.hid hel
          have LO := Lib.hid (lo_take HS.out hq9)
          have GE := Lib.hid (ge_drop HS.out hq9)
          rw [hhe] at LO GE c8 c9
          dsimp only at LO GE
          have C8 := Lib.hid c8
          have hhlt : (hh : Int) < (l.length : Int) := by omega
          have hhe2 : (l.length : Int) / 2 = (hh : Int) := by omega
          clear hPE hEc hel hq9 c8 c9 h2
          go_wp2_with (fail)
          refine (mid_any h8.a TM.out (by omega) H2.out QK.out).mono ?_
          rintro e W9 ⟨rfl, hb9⟩
          have h9 := h8.below hb9
          clear hb9 h8
          go_wp2_with (fail)
          refine (half_ok h9 TM.out HS.out (by omega) (by rw [HH.out]; have := L5.out; omega) H2.out QK.out).mono ?_
          rintro e W10 ⟨uu, vv, M, rfl, h10, hM, hX, hY⟩
          rw [LO.out] at hX
          rw [GE.out] at hY
          have TU := Lib.hid hX
          have TV := Lib.hid hY
          have TM2 := Lib.hid (TM.out.app M)
          have d9 := h10.old C8.out
          have hkk : (k == k) = true := by simp
          clear hM hX hY h9 
          generalize LL ++ M = L9 at h10 TU TV TM2
          go_wp2_with (fail)
          refine (says_is TU.out (PT2.out.2.below h10.b) h10.a (by rw [PT2.out.1]; omega) PT2.out.1).mono ?_
          rintro e W11 ⟨rfl, hb11⟩
          have h11 := h10.below hb11
          clear hb11 h10
          go_wp2_with (fail)
          refine (says_is TV.out (PE.out.below h11.b) h11.a (by rw [EL.out]; omega) EL.out).mono ?_
          rintro e W12 ⟨rfl, hb12⟩
          have h12 := h11.below hb12
          clear hb12 h11
          go_wp2_with (fail)
          refine (says_any p _ 400 0 L9 t l TM2.out _ c W12 (HP.out.below h12.b) h12.a (by omega)).mono ?_
          rintro e W13 ⟨rfl, hb13⟩
          have h13 := h12.below hb13
          clear hb13 h12
          go_wp2_with (go_at_call 32; ((with_reducible refine (hawake_any W13).mono ?_); rintro e W14 ⟨rfl, hb14⟩; have h14 := h13.below hb14; clear hb14 h13))
          go_ret
          exact ⟨rfl, HBW.out.trans (h14.b.mono HBW.out.size)⟩
    · have hnl : nn = l.length := by omega
      have hD := Lib.hid (show ∀ z ∈ l.drop nn, a1 ≤ z.1 by
        intro z hz; rw [hnl, List.drop_length] at hz; cases hz)
      have HNL := Lib.hid hnl
      clear hnl
      rcases FORM.out with ⟨rfl, rfl, rfl⟩ | ⟨b, o, rfl⟩
      · have h2 : ([] : List Pr).length < 2 := by simp
        obtain rfl : nn = 0 := by simpa using HNL.out
        have EX := Lib.hid (lo_at HB.out hD.out)
        have EY := Lib.hid (ge_at HB.out hD.out)
        have PT := Lib.hid (prs_take HP.out 0 (by simp))
        have PD := Lib.hid (show Prs W2 none 0 (List.drop 0 []) from HP.out)
        have DL := Lib.hid (show (List.drop 0 ([] : List Pr)).length = 0 from rfl)
        clear hlt
        clear HB hD
        go_wp2_with (go_at_call 15; ((with_reducible refine (used_held h4 (0 : Int) (by simp [N4.out])).mono ?_); rintro e W5 ⟨rfl, hww⟩; subst hww))
        refine (part_ok h4 T4.out HS.out (by omega) (by rw [N4.out, HH.out]; omega) a1).mono ?_
        rintro e W5 ⟨x, y, M, rfl, h5, hM, hX, hY⟩
        rw [EX.out] at hX
        rw [EY.out] at hY
        rw [HH.out] at hM
        have TX := Lib.hid hX
        have TY := Lib.hid hY
        have TM := Lib.hid (T4.out.app M)
        obtain ⟨nu, hnu⟩ : ∃ nu : Int, nu = ((L ++ M).length : Nat) := ⟨_, rfl⟩
        have hnu0 : (0 : Int) ≤ nu := by rw [hnu, List.length_append, N4.out]; omega
        have hnu1 : nu ≤ 100 := by rw [hnu, List.length_append, N4.out]; omega
        have hnd : decide ((H : Int) < nu) = false := by rw [decide_eq_false_iff_not, hnu, List.length_append, N4.out]; omega
        have L5 := Lib.hid (show (L ++ M).length ≤ 100 by rw [List.length_append, N4.out]; omega)
        have NU := Lib.hid hnu
        clear hM hX hY h4 hnu
        generalize L ++ M = LL at h5 TX TY TM NU L5
        go_wp2_with (fail)
        refine (says_is TX.out (PT.out.2.below h5.b) h5.a (by rw [PT.out.1]; omega) PT.out.1).mono ?_
        rintro e W6 ⟨rfl, hb6⟩
        have h6 := h5.below hb6
        clear hb6 h5
        go_wp2_with (fail)
        refine (says_is TY.out (PD.out.below h6.b) h6.a (by rw [DL.out]; omega) DL.out).mono ?_
        rintro e W7 ⟨rfl, hb7⟩
        have h7 := h6.below hb7
        clear hb7 h6
        go_wp2_with (go_at_call 15; ((with_reducible refine (used_held h7 nu NU.out).mono ?_); rintro e W8 ⟨rfl, hww⟩; subst hww))
        have ch := high_any 0 none 0 [] W7 (Nat.le_refl _) (HP.out.below h7.b) (by omega)
        rw [HH.out] at ch
        refine ch.mono ?_
        clear ch
        rintro e W8 ⟨rfl, hb8⟩
        have h8 := h7.below hb8
        clear hb8 h7
        have hd2 : decide ((0 : Int) < 2) = true := by rw [decide_eq_true_iff]; omega
        have HF := Lib.hid h2
        clear h2
        go_wp2_with (first
          | (go_at_call 30; ((with_reducible refine (mid_none h8.a TM.out HF.out).mono ?_); rintro e W9 ⟨rfl, hb9⟩; have h9 := h8.below hb9; clear hb9 h8))
          | (go_at_call 31; ((with_reducible refine (half_none h9.a TM.out HF.out).mono ?_); rintro e W10 ⟨rfl, hb10⟩; have h10 := h9.below hb10; clear hb10 h9))
          | (go_at_call 32; ((with_reducible refine (hawake_any W10).mono ?_); rintro e W14 ⟨rfl, hb14⟩; have h14 := h10.below hb14; clear hb14 h10)))
        go_ret
        exact ⟨rfl, HBW.out.trans (h14.b.mono HBW.out.size)⟩
      · by_cases hcn : c = nn
        · subst hcn
          have EX := Lib.hid (lo_at HB.out hD.out)
          have EY := Lib.hid (ge_at HB.out hD.out)
          have PT := Lib.hid (prs_take HP.out (c) (by omega))
          obtain ⟨aD, hdl, hPD, hDc⟩ := prs_drop HP.out c (by omega)
          obtain ⟨_, rfl⟩ := hDc.resolve_right (fun h => h.1 rfl)
          rw [Nat.sub_self] at hPD
          have PD := Lib.hid hPD
          have DL := Lib.hid (hdl.trans (show l.length - c = 0 by omega))
          clear hPD hDc hdl
          clear HB hD
          go_wp2_with (go_at_call 15; ((with_reducible refine (used_held h4 (l.length : Int) (by rw [N4.out])).mono ?_); rintro e W5 ⟨rfl, hww⟩; subst hww))
          refine (part_ok h4 T4.out HS.out (by omega) (by rw [N4.out, HH.out]; omega) a1).mono ?_
          rintro e W5 ⟨x, y, M, rfl, h5, hM, hX, hY⟩
          rw [EX.out] at hX
          rw [EY.out] at hY
          rw [HH.out] at hM
          have TX := Lib.hid hX
          have TY := Lib.hid hY
          have TM := Lib.hid (T4.out.app M)
          obtain ⟨nu, hnu⟩ : ∃ nu : Int, nu = ((L ++ M).length : Nat) := ⟨_, rfl⟩
          have hnu0 : (l.length : Int) ≤ nu := by rw [hnu, List.length_append, N4.out]; omega
          have hnu1 : nu ≤ 100 := by rw [hnu, List.length_append, N4.out]; omega
          have hnd : decide ((H : Int) < nu - (l.length : Int)) = false := by rw [decide_eq_false_iff_not, hnu, List.length_append, N4.out]; omega
          have L5 := Lib.hid (show (L ++ M).length ≤ 100 by rw [List.length_append, N4.out]; omega)
          have NU := Lib.hid hnu
          clear hM hX hY h4 hnu
          generalize L ++ M = LL at h5 TX TY TM NU L5
          go_wp2_with (fail)
          refine (says_is TX.out (PT.out.2.below h5.b) h5.a (by rw [PT.out.1]; omega) PT.out.1).mono ?_
          rintro e W6 ⟨rfl, hb6⟩
          have h6 := h5.below hb6
          clear hb6 h5
          go_wp2_with (fail)
          refine (says_is TY.out (PD.out.below h6.b) h6.a (by rw [DL.out]; omega) DL.out).mono ?_
          rintro e W7 ⟨rfl, hb7⟩
          have h7 := h6.below hb7
          clear hb7 h6
          go_wp2_with (go_at_call 15; ((with_reducible refine (used_held h7 nu NU.out).mono ?_); rintro e W8 ⟨rfl, hww⟩; subst hww))
          have ch := high_any l.length _ c l W7 (Nat.le_refl _) (HP.out.below h7.b) (by omega)
          rw [HH.out] at ch
          refine ch.mono ?_
          clear ch
          rintro e W8 ⟨rfl, hb8⟩
          have h8 := h7.below hb8
          clear hb8 h7
          by_cases h2 : l.length < 2
          · have hd2 : decide ((l.length : Int) < 2) = true := by rw [decide_eq_true_iff]; omega
            have HF := Lib.hid h2
            clear h2
            go_wp2_with (first
              | (go_at_call 30; ((with_reducible refine (mid_none h8.a TM.out HF.out).mono ?_); rintro e W9 ⟨rfl, hb9⟩; have h9 := h8.below hb9; clear hb9 h8))
              | (go_at_call 31; ((with_reducible refine (half_none h9.a TM.out HF.out).mono ?_); rintro e W10 ⟨rfl, hb10⟩; have h10 := h9.below hb10; clear hb10 h9))
              | (go_at_call 32; ((with_reducible refine (hawake_any W10).mono ?_); rintro e W14 ⟨rfl, hb14⟩; have h14 := h10.below hb14; clear hb14 h10)))
            go_ret
            exact ⟨rfl, HBW.out.trans (h14.b.mono HBW.out.size)⟩
          · have hd2 : decide ((l.length : Int) < 2) = false := by rw [decide_eq_false_iff_not]; omega
            obtain ⟨⟨k, v⟩, hq9⟩ : ∃ q, l[l.length / 2]? = some q := ⟨_, List.getElem?_eq_getElem (by omega)⟩
            have QK := Lib.hid hq9
            obtain ⟨hh, hhe⟩ : ∃ hh : Nat, l.length / 2 = hh := ⟨_, rfl⟩
            obtain ⟨b9, o9, e9, c8, c9⟩ := HP.out.2.2 _ _ hq9
            cases e9
            dsimp only at c8 c9
            have H2 := Lib.hid (show 2 ≤ l.length by omega)
            have PT2 := Lib.hid (prs_take HP.out hh (by omega))
            obtain ⟨aE, hel, hPE, hEc⟩ := prs_drop HP.out hh (by omega)
            have hch : ¬ c = hh := by omega
            obtain ⟨_, rfl⟩ := hEc.resolve_left (fun h => hch h.1)
            have PE := Lib.hid hPE
            have EL := Lib.hid hel
            have LO := Lib.hid (lo_take HS.out hq9)
            have GE := Lib.hid (ge_drop HS.out hq9)
            rw [hhe] at LO GE c8 c9
            dsimp only at LO GE
            have C8 := Lib.hid c8
            have hhlt : (hh : Int) < (l.length : Int) := by omega
            have hhe2 : (l.length : Int) / 2 = (hh : Int) := by omega
            clear hPE hEc hel hq9 c8 c9 h2
            go_wp2_with (fail)
            refine (mid_any h8.a TM.out (by omega) H2.out QK.out).mono ?_
            rintro e W9 ⟨rfl, hb9⟩
            have h9 := h8.below hb9
            clear hb9 h8
            go_wp2_with (fail)
            refine (half_ok h9 TM.out HS.out (by omega) (by rw [HH.out]; have := L5.out; omega) H2.out QK.out).mono ?_
            rintro e W10 ⟨uu, vv, M, rfl, h10, hM, hX, hY⟩
            rw [LO.out] at hX
            rw [GE.out] at hY
            have TU := Lib.hid hX
            have TV := Lib.hid hY
            have TM2 := Lib.hid (TM.out.app M)
            have d9 := h10.old C8.out
            have hkk : (k == k) = true := by simp
            clear hM hX hY h9 
            generalize LL ++ M = L9 at h10 TU TV TM2
            go_wp2_with (fail)
            refine (says_is TU.out (PT2.out.2.below h10.b) h10.a (by rw [PT2.out.1]; omega) PT2.out.1).mono ?_
            rintro e W11 ⟨rfl, hb11⟩
            have h11 := h10.below hb11
            clear hb11 h10
            go_wp2_with (fail)
            refine (says_is TV.out (PE.out.below h11.b) h11.a (by rw [EL.out]; omega) EL.out).mono ?_
            rintro e W12 ⟨rfl, hb12⟩
            have h12 := h11.below hb12
            clear hb12 h11
            go_wp2_with (fail)
            refine (says_any p _ 400 0 L9 t l TM2.out _ c W12 (HP.out.below h12.b) h12.a (by omega)).mono ?_
            rintro e W13 ⟨rfl, hb13⟩
            have h13 := h12.below hb13
            clear hb13 h12
            go_wp2_with (go_at_call 32; ((with_reducible refine (hawake_any W13).mono ?_); rintro e W14 ⟨rfl, hb14⟩; have h14 := h13.below hb14; clear hb14 h13))
            go_ret
            exact ⟨rfl, HBW.out.trans (h14.b.mono HBW.out.size)⟩
        · have EX := Lib.hid (lo_at HB.out hD.out)
          have EY := Lib.hid (ge_at HB.out hD.out)
          have PT := Lib.hid (prs_take HP.out (nn) (by omega))
          obtain ⟨aD, hdl, hPD, hDc⟩ := prs_drop HP.out nn (by omega)
          obtain ⟨_, rfl⟩ := hDc.resolve_left (fun h => hcn h.1)
          have PD := Lib.hid hPD
          have DL := Lib.hid hdl
          clear hPD hDc hdl
          clear HB hD
          go_wp2_with (go_at_call 15; ((with_reducible refine (used_held h4 (l.length : Int) (by rw [N4.out])).mono ?_); rintro e W5 ⟨rfl, hww⟩; subst hww))
          refine (part_ok h4 T4.out HS.out (by omega) (by rw [N4.out, HH.out]; omega) a1).mono ?_
          rintro e W5 ⟨x, y, M, rfl, h5, hM, hX, hY⟩
          rw [EX.out] at hX
          rw [EY.out] at hY
          rw [HH.out] at hM
          have TX := Lib.hid hX
          have TY := Lib.hid hY
          have TM := Lib.hid (T4.out.app M)
          obtain ⟨nu, hnu⟩ : ∃ nu : Int, nu = ((L ++ M).length : Nat) := ⟨_, rfl⟩
          have hnu0 : (l.length : Int) ≤ nu := by rw [hnu, List.length_append, N4.out]; omega
          have hnu1 : nu ≤ 100 := by rw [hnu, List.length_append, N4.out]; omega
          have hnd : decide ((H : Int) < nu - (l.length : Int)) = false := by rw [decide_eq_false_iff_not, hnu, List.length_append, N4.out]; omega
          have L5 := Lib.hid (show (L ++ M).length ≤ 100 by rw [List.length_append, N4.out]; omega)
          have NU := Lib.hid hnu
          clear hM hX hY h4 hnu
          generalize L ++ M = LL at h5 TX TY TM NU L5
          go_wp2_with (fail)
          refine (says_is TX.out (PT.out.2.below h5.b) h5.a (by rw [PT.out.1]; omega) PT.out.1).mono ?_
          rintro e W6 ⟨rfl, hb6⟩
          have h6 := h5.below hb6
          clear hb6 h5
          go_wp2_with (fail)
          refine (says_is TY.out (PD.out.below h6.b) h6.a (by rw [DL.out]; omega) DL.out).mono ?_
          rintro e W7 ⟨rfl, hb7⟩
          have h7 := h6.below hb7
          clear hb7 h6
          go_wp2_with (go_at_call 15; ((with_reducible refine (used_held h7 nu NU.out).mono ?_); rintro e W8 ⟨rfl, hww⟩; subst hww))
          have ch := high_any l.length _ c l W7 (Nat.le_refl _) (HP.out.below h7.b) (by omega)
          rw [HH.out] at ch
          refine ch.mono ?_
          clear ch
          rintro e W8 ⟨rfl, hb8⟩
          have h8 := h7.below hb8
          clear hb8 h7
          by_cases h2 : l.length < 2
          · have hd2 : decide ((l.length : Int) < 2) = true := by rw [decide_eq_true_iff]; omega
            have HF := Lib.hid h2
            clear h2
            go_wp2_with (first
              | (go_at_call 30; ((with_reducible refine (mid_none h8.a TM.out HF.out).mono ?_); rintro e W9 ⟨rfl, hb9⟩; have h9 := h8.below hb9; clear hb9 h8))
              | (go_at_call 31; ((with_reducible refine (half_none h9.a TM.out HF.out).mono ?_); rintro e W10 ⟨rfl, hb10⟩; have h10 := h9.below hb10; clear hb10 h9))
              | (go_at_call 32; ((with_reducible refine (hawake_any W10).mono ?_); rintro e W14 ⟨rfl, hb14⟩; have h14 := h10.below hb14; clear hb14 h10)))
            go_ret
            exact ⟨rfl, HBW.out.trans (h14.b.mono HBW.out.size)⟩
          · have hd2 : decide ((l.length : Int) < 2) = false := by rw [decide_eq_false_iff_not]; omega
            obtain ⟨⟨k, v⟩, hq9⟩ : ∃ q, l[l.length / 2]? = some q := ⟨_, List.getElem?_eq_getElem (by omega)⟩
            have QK := Lib.hid hq9
            obtain ⟨hh, hhe⟩ : ∃ hh : Nat, l.length / 2 = hh := ⟨_, rfl⟩
            obtain ⟨b9, o9, e9, c8, c9⟩ := HP.out.2.2 _ _ hq9
            cases e9
            dsimp only at c8 c9
            have H2 := Lib.hid (show 2 ≤ l.length by omega)
            have PT2 := Lib.hid (prs_take HP.out hh (by omega))
            obtain ⟨aE, hel, hPE, hEc⟩ := prs_drop HP.out hh (by omega)
            have hch : ¬ c = hh := by omega
            obtain ⟨_, rfl⟩ := hEc.resolve_left (fun h => hch h.1)
            have PE := Lib.hid hPE
            have EL := Lib.hid hel
            have LO := Lib.hid (lo_take HS.out hq9)
            have GE := Lib.hid (ge_drop HS.out hq9)
            rw [hhe] at LO GE c8 c9
            dsimp only at LO GE
            have C8 := Lib.hid c8
            have hhlt : (hh : Int) < (l.length : Int) := by omega
            have hhe2 : (l.length : Int) / 2 = (hh : Int) := by omega
            clear hPE hEc hel hq9 c8 c9 h2
            go_wp2_with (fail)
            refine (mid_any h8.a TM.out (by omega) H2.out QK.out).mono ?_
            rintro e W9 ⟨rfl, hb9⟩
            have h9 := h8.below hb9
            clear hb9 h8
            go_wp2_with (fail)
            refine (half_ok h9 TM.out HS.out (by omega) (by rw [HH.out]; have := L5.out; omega) H2.out QK.out).mono ?_
            rintro e W10 ⟨uu, vv, M, rfl, h10, hM, hX, hY⟩
            rw [LO.out] at hX
            rw [GE.out] at hY
            have TU := Lib.hid hX
            have TV := Lib.hid hY
            have TM2 := Lib.hid (TM.out.app M)
            have d9 := h10.old C8.out
            have hkk : (k == k) = true := by simp
            clear hM hX hY h9 
            generalize LL ++ M = L9 at h10 TU TV TM2
            go_wp2_with (fail)
            refine (says_is TU.out (PT2.out.2.below h10.b) h10.a (by rw [PT2.out.1]; omega) PT2.out.1).mono ?_
            rintro e W11 ⟨rfl, hb11⟩
            have h11 := h10.below hb11
            clear hb11 h10
            go_wp2_with (fail)
            refine (says_is TV.out (PE.out.below h11.b) h11.a (by rw [EL.out]; omega) EL.out).mono ?_
            rintro e W12 ⟨rfl, hb12⟩
            have h12 := h11.below hb12
            clear hb12 h11
            go_wp2_with (fail)
            refine (says_any p _ 400 0 L9 t l TM2.out _ c W12 (HP.out.below h12.b) h12.a (by omega)).mono ?_
            rintro e W13 ⟨rfl, hb13⟩
            have h13 := h12.below hb13
            clear hb13 h12
            go_wp2_with (go_at_call 32; ((with_reducible refine (hawake_any W13).mono ?_); rintro e W14 ⟨rfl, hb14⟩; have h14 := h13.below hb14; clear hb14 h13))
            go_ret
            exact ⟨rfl, HBW.out.trans (h14.b.mono HBW.out.size)⟩

set_option maxRecDepth 100000 in
theorem lifted (os : Os) (started : os.Started) (H : Type) (enc : TypeId × Value → H) :
    ReturnsInHanded {} Try.checked os 8 .any (Rows.partFormsSpec.pre6 enc Try.prog Try.f8 Rows.partFormsRow.domain false) (Rows.partFormsSpec.post enc Try.prog Try.f8 false true false false) := by
  refine returnsInHanded_of_change (C := Try.checked) own started (by kernel_rfl) Try.func8
    (ChangeSpec.witness6 (enc := enc) (C := Try.checked) false ⟨#[], #[.slice none 0 0, .int .i64 0], []⟩ 8 (by kernel_rfl) (by kernel_rfl) (by kernel_rfl) (by kernel_rfl)) ?_
  intro W base args ds gs before hval0 hW hcnd _
  have hval : ∀ (j : Nat) t v, Try.f8.params[j]? = some t → args[j]? = some v → Value.okWide Try.prog W .any base t v := hval0
  have hW' := hW
  obtain ⟨p, q, hA0, hV, rfl, hfz, hnd⟩ := hW
  have hA : DataW.TrodAll enc Try.prog W 0 (fun _ => true) true Try.f8.params.toList args.toList ds p := hA0
  rw [Try.params8] at hA hval
  obtain ⟨v0, vs0, d0, ds0, p0, q0, hargs, rfl, rfl, h0, r0⟩ := trodAll_cons hA
  obtain ⟨v1, vs1, d1, ds1, p1, q1, rfl, rfl, rfl, h1, r1⟩ := trodAll_cons r0
  obtain ⟨rfl, rfl, rfl⟩ := trodAll_nil r1
  obtain rfl : args = #[v0, v1] := by cases args; simp_all
  obtain ⟨rfl, rfl⟩ := trodVars_none hV
  have k0 := h0
  have lt0 : ∀ x ∈ p0, x.block < W.heap.size := by obtain ⟨m, hm⟩ := k0; exact DataW.trod_lt m _ _ _ hm
  obtain ⟨b0, l0, c0, rfl⟩ := okWide_slice Try.underlying22 (hval 0 22 v0 rfl rfl)
  obtain ⟨a0, cap0, z0, e0, w0, g0⟩ := open_pairsw (enc := enc) (w := W) (v := .slice b0 l0 c0) (fuel := h0.choose) (by simpa [Value.cells] using h0.choose_spec)
  rw [e0] at hval k0 h0 hW' hval0 hA0
  have k1 := h1
  have lt1 : ∀ x ∈ p1, x.block < W.heap.size := by obtain ⟨m, hm⟩ := k1; exact DataW.trod_lt m _ _ _ hm
  obtain ⟨a1, rfl, rfl, rfl, w1⟩ := open_int Try.underlying3 (hval 1 3 v1 rfl rfl) h1
  clear hA0 hval0
  rw [e0]; refine (walk a0 cap0 z0 a1 W w0 g0 w1).mono fun e W' ⟨he, bel⟩ => ?_
  subst he
  exact ⟨_, rfl, _, _, _, [], _, [], hW', trodAll_mk1 (shut_bool Try.underlying4 _), (trodAll_cons_mk (Below.trod laidOut (by kernel_rfl) (of_decide_eq_true (by kernel_rfl)) k0 bel lt0) (trodAll_cons_mk (Below.trod laidOut (by kernel_rfl) (of_decide_eq_true (by kernel_rfl)) k1 bel lt1) trodAll_mk0)), rfl, bel.frame _, fun h => by cases h⟩

theorem over : Rows.partFormsRow.holds Try.pinned (OpenSpec.ofChange Rows.partFormsSpec) :=
  OpenClaim.holds_of_wide 8 Try.f8 rfl rfl rfl rfl rfl rfl rfl ⟨rfl, rfl, rfl, rfl, rfl⟩ rfl rfl rfl rfl rfl (by kernel_rfl) Try.func8 (by kernel_rfl)
    (of_decide_eq_true (by kernel_rfl)) (by unfold Func.isWrapper; first | (rw [if_pos (by decide +kernel)]; kernel_rfl) | (rw [if_neg (by decide +kernel)]; exact ⟨rfl, rfl⟩))
    (fun os started H enc _ => lifted os started H enc)

theorem partFormsHolds : Rows.PartFormsSaid := over
#print axioms partFormsHolds
end Go.Proofs.Ytdonidohmenccaa.partForms
