/- 'osierlaw8.JoinThree' returns true for every argument. No condition. -/
import Derived.Test.YtellkcppgfghhaaRows
import Derived.Test.YtellkcppgfghhaaJnZ
import Derived.Test.YtellkcppgfghhaaPaR
import Derived.Test.YtellkcppgfghhaaNForm
import Derived.Test.YtellkcppgfghhaaNArgs
import Derived.Deep.CutBlock
import Derived.Deep.CutRange
import Derived.Deep.QuietTactic
import Derived.BigQuiet
import Derived.LoopTactic
import Derived.WalkKit
import Derived.ProofKit
import Derived.OpenShut
import Derived.ChangeOld
import Derived.Below
namespace Go.Proofs.Ytellkcppgfghhaa.joinThree
open Go.ChangeShapes Go.WideShapes Go.ChangeAt Go.RowKit
set_option linter.all false

theorem own : ownKnob Try.prog.godebug = none := by kernel_rfl
theorem laidOut : laidOutB Try.prog = true := by kernel_rfl

theorem three_app (l : List Pr) (i k : Nat) (h : i ≤ k) (hk : k ≤ l.length) : l.take i ++ (l.drop i).take (k - i) = l.take k ∧ (l.drop i).take (k - i) ++ l.drop k = l.drop i ∧ hi (l.take i) ≤ l.length ∧ hi ((l.drop i).take (k - i)) ≤ l.length ∧ hi (l.drop k) ≤ l.length ∧ hi (l.take k) ≤ l.length ∧ hi (l.drop i) ≤ l.length := by
  have h1 := hi_le _ (l.take i) (Nat.le_refl _)
  have h2 := hi_le _ ((l.drop i).take (k - i)) (Nat.le_refl _)
  have h3 := hi_le _ (l.drop k) (Nat.le_refl _)
  have h4 := hi_le _ (l.take k) (Nat.le_refl _)
  have h5 := hi_le _ (l.drop i) (Nat.le_refl _)
  rw [List.length_take] at h1 h4
  rw [List.length_take, List.length_drop] at h2
  rw [List.length_drop] at h3 h5
  refine ⟨?_, ?_, by omega, by omega, by omega, by omega, by omega⟩
  · have := List.take_append_drop i (l.take k)
    rw [List.take_take, Nat.min_eq_left h, List.drop_take] at this
    exact this
  · have := List.take_append_drop (k - i) (l.drop i)
    rw [List.drop_drop, show i + (k - i) = k by omega] at this
    exact this

set_option maxRecDepth 100000 in
set_option maxHeartbeats 25600000 in
theorem walk (a0 : Option Addr) (cap0 : Nat) (z0 : List Pr) (a1 : Int) (a2 : Int) (w : World) (w0 : Prs w a0 cap0 z0) (r0 : Rng z0) (w1 : (Lit.int .i64 a1).wf = true) (w2 : (Lit.int .i64 a2).wf = true) :
    Calls Try.prog 10 #[.slice a0 z0.length cap0, .int .i64 a1, .int .i64 a2] w fun e w' => e = .returned (.bool true) ∧ Below w.heap.size w w' := by
  have cp : ∀ W, Below w.heap.size w W → Calls Try.prog 11 #[.slice a0 z0.length cap0, .int .i64 40] W (PairsAt W 40) := fun W hb => pairs_at a0 cap0 z0 40 W (w0.below hb) r0 (by omega)
  clear w0 r0
  go_enter Try.func10, Try.ntmps10
  go_wp2_with (fail)
  refine (cp _ (Below.refl _ _)).mono ?_
  clear cp
  rintro e W2 ⟨ao, c, l, rfl, hl, hs, hr, hP, hform, hbw⟩
  have HBW := Lib.hid hbw
  have HP := Lib.hid hP
  have HS := Lib.hid hs
  have FORM := Lib.hid hform
  have hc1 := hP.1
  have hc2 := hP.2.1
  unfold maxLen at hc2
  obtain ⟨n1, hn1, hum1⟩ := umod a1 ((l.length : Int) + 1) (by omega) (by omega)
  obtain ⟨n2, hn2, hum2⟩ := umod a2 ((l.length : Int) + 1) (by omega) (by omega)
  have HU1 := Lib.hid hum1
  have HU2 := Lib.hid hum2
  have hz : ¬ (l.length : Int) + 1 = 0 := by omega
  have hwz : IntKind.i64.wrap ((l.length : Int) + 1) = (l.length : Int) + 1 := by rw [IntKind.wrap_i64]; omega
  clear hP hs hr hbw hform hum1 hum2
  go_wp2_with (fail)
  go_quiet (fail)
  go_upto_if 43 with (fail)
  rw [HU1.out, HU2.out]
  go_cut [1, 2, 7] from 1 to 46 (fun i k s wx => ∃ I K : Nat, i = .int .i64 I ∧ k = .int .i64 K ∧ s = .slice ao l.length c ∧ I ≤ K ∧ K ≤ l.length ∧ Below W2.heap.size W2 wx)
  case first =>
    by_cases hlt : (n2 : Int) < (n1 : Int)
    · go_wp2_with (fail)
      go_meet
      case rel => exact ⟨n2, n1, rfl, rfl, rfl, by omega, by omega, below_drewN (Below.refl _ _) _⟩
    · go_wp2_with (fail)
      go_meet
      case rel => exact ⟨n1, n2, rfl, rfl, rfl, by omega, by omega, below_drewN (Below.refl _ _) _⟩
  case rest =>
    obtain ⟨I, K, rfl, rfl, rfl, hIK, hK, hbx⟩ := hcut
    clear HU1 HU2 hn1 hn2 hz hwz
    rcases FORM.out with ⟨rfl, rfl, rfl⟩ | ⟨b, o, rfl⟩
    · obtain rfl : I = 0 := by simp at hK; omega
      obtain rfl : K = 0 := by simp at hK; omega
      have PT := Lib.hid (prs_take HP.out 0 (by simp))
      have PD := Lib.hid (show Prs W2 none 0 (List.drop 0 []) from HP.out)
      have DL := Lib.hid (show (List.drop 0 ([] : List Pr)).length = 0 from rfl)
      have PM := Lib.hid (show Prs W2 none 0 ((List.drop 0 []).take (0 - 0)) from HP.out)
      have ML := Lib.hid (show ((List.drop 0 ([] : List Pr)).take (0 - 0)).length = 0 from rfl)
      obtain ⟨e1, e2, b1, b2, b3, b4, b5⟩ := three_app ([] : List Pr) 0 0 (Nat.le_refl _) (Nat.le_refl _)
      have E1 := Lib.hid e1
      have E2 := Lib.hid e2
      have E3 := Lib.hid (show ([] : List Pr).take (0) ++ ([] : List Pr).drop (0) = ([] : List Pr) from List.take_append_drop _ ([] : List Pr))
      have E4 := Lib.hid (show ([] : List Pr).take (0) ++ ([] : List Pr).drop (0) = ([] : List Pr) from List.take_append_drop _ ([] : List Pr))
      simp only [List.length_nil] at b1 b2 b3 b4 b5
      have BB := Lib.hid (And.intro b1 (And.intro b2 (And.intro b3 (And.intro b4 b5))))
      have hi0 : (0 : Int) ≤ ((0 : Nat) : Int) := by omega
      have hk0 : (0 : Int) ≤ ((0 : Nat) : Int) := by omega
      have hik : ((0 : Nat) : Int) ≤ ((0 : Nat) : Int) := by omega
      have hkl : ((0 : Nat) : Int) ≤ (0 : Int) := by omega
      have hkc : ((0 : Nat) : Int) ≤ (0 : Int) := by omega
      have hic : ((0 : Nat) : Int) ≤ (0 : Int) := by omega
      have hil : ((0 : Nat) : Int) ≤ (0 : Int) := by omega
      have S1 := Lib.hid (show Srt (([] : List Pr).take (0) ++ (([] : List Pr).drop (0)).take ((0) - (0))) by rw [e1]; have h := HS.out; rw [← E4.out] at h; exact h.two.1)
      have S2 := Lib.hid (show Srt ((([] : List Pr).drop (0)).take ((0) - (0)) ++ ([] : List Pr).drop (0)) by rw [e2]; have h := HS.out; rw [← E3.out] at h; exact h.two.2.1)
      clear e1 e2 b1 b2 b3 b4 b5
      go_wp2_with (fail)
      refine (new_held 2000 2000 W2 _ hbx (by decide)).mono ?_
      rintro e W3 ⟨p, rfl, h1⟩
      clear hbx
      go_wp2_with (fail)
      refine (laid_is PT.out.2 h1 Good.nil (by rw [PT.out.1]; simp) (by rw [PT.out.1]; omega) PT.out.1).mono ?_
      rintro e W4 ⟨x, L1, rfl, h4, n4, t4, g4⟩
      rw [List.nil_append] at h4 t4 g4
      have N4 := Lib.hid (show L1.length ≤ 40 by rw [n4, PT.out.1]; omega)
      have T4 := Lib.hid t4
      have G4 := Lib.hid g4
      clear n4 t4 g4 h1
      go_wp2_with (fail)
      refine (laid_is PM.out h4 G4.out (by rw [ML.out]; have := N4.out; omega) (by rw [ML.out]; omega) ML.out).mono ?_
      rintro e W5 ⟨y, L2, rfl, h5, n5, t5, g5⟩
      have N5 := Lib.hid (show (L1 ++ L2).length ≤ 80 by rw [List.length_append, n5, ML.out]; have := N4.out; omega)
      have T5 := Lib.hid t5
      have G5 := Lib.hid g5
      have T45 := Lib.hid (T4.out.app L2)
      clear n5 t5 g5 h4
      generalize L1 ++ L2 = LA at h5 T5 T45 N5 G5
      go_wp2_with (fail)
      refine (laid_is PD.out h5 G5.out (by rw [DL.out]; have := N5.out; omega) (by rw [DL.out]; omega) DL.out).mono ?_
      rintro e W6 ⟨z, L3, rfl, h6, n6, t6, g6⟩
      have N6 := Lib.hid (show (LA ++ L3).length ≤ 120 by rw [List.length_append, n6, DL.out]; have := N5.out; omega)
      have TZ := Lib.hid t6
      have TX := Lib.hid (T45.out.app L3)
      have TY := Lib.hid (T5.out.app L3)
      clear n6 t6 g6 h5
      generalize LA ++ L3 = LB at h6 TX TY TZ N6
      go_wp2_with (fail)
      refine (two_ok h6 TX.out TY.out (by rw [PT.out.1, ML.out]; omega) S1.out (by have := N6.out; have := BB.out; omega)).mono ?_
      rintro e W7 ⟨u, M1, rfl, h7, m7, t7⟩
      rw [E1.out] at t7
      have TU := Lib.hid t7
      have TX7 := Lib.hid (TX.out.app M1)
      have TY7 := Lib.hid (TY.out.app M1)
      have TZ7 := Lib.hid (TZ.out.app M1)
      have N7 := Lib.hid (show (LB ++ M1).length ≤ 200 by rw [List.length_append]; have := N6.out; have := BB.out; omega)
      clear m7 t7 h6
      generalize LB ++ M1 = LC at h7 TU TX7 TY7 TZ7 N7
      go_wp2_with (fail)
      refine (two_ok h7 TU.out TZ7.out (by rw [DL.out, List.length_take]; omega) (by rw [E4.out]; exact HS.out) (by have := N7.out; have := BB.out; omega)).mono ?_
      rintro e W8 ⟨v, M2, rfl, h8, m8, t8⟩
      rw [E4.out] at t8
      have TV := Lib.hid t8
      have TX8 := Lib.hid (TX7.out.app M2)
      have TY8 := Lib.hid (TY7.out.app M2)
      have TZ8 := Lib.hid (TZ7.out.app M2)
      have N8 := Lib.hid (show (LC ++ M2).length ≤ 280 by rw [List.length_append]; have := N7.out; have := BB.out; omega)
      clear m8 t8 h7
      generalize LC ++ M2 = LD at h8 TV TX8 TY8 TZ8 N8
      go_wp2_with (fail)
      refine (two_ok h8 TY8.out TZ8.out (by rw [DL.out, ML.out]; omega) S2.out (by have := N8.out; have := BB.out; omega)).mono ?_
      rintro e W9 ⟨q, M3, rfl, h9, m9, t9⟩
      rw [E2.out] at t9
      have TQ := Lib.hid t9
      have TX9 := Lib.hid (TX8.out.app M3)
      have TV9 := Lib.hid (TV.out.app M3)
      have N9 := Lib.hid (show (LD ++ M3).length ≤ 360 by rw [List.length_append]; have := N8.out; have := BB.out; omega)
      clear m9 t9 h8
      generalize LD ++ M3 = LE at h9 TQ TX9 TV9 N9
      go_wp2_with (fail)
      refine (two_ok h9 TX9.out TQ.out (by rw [PT.out.1, List.length_drop]; omega) (by rw [E3.out]; exact HS.out) (by have := N9.out; have := BB.out; omega)).mono ?_
      rintro e W10 ⟨t, M4, rfl, h10, m10, t10⟩
      rw [E3.out] at t10
      have TT := Lib.hid t10
      have TV10 := Lib.hid (TV9.out.app M4)
      obtain ⟨H, hH⟩ : ∃ H : Nat, hi ([] : List Pr) = H := ⟨_, rfl⟩
      have hHl := hi_le _ ([] : List Pr) (Nat.le_refl _)
      rw [hH] at hHl
      simp at hHl
      have HH := Lib.hid hH
      have hHd : decide ((H : Int) ≤ (0 : Int)) = true := by rw [decide_eq_true_iff]; omega
      clear m10 t10 h9 hH
      generalize LE ++ M4 = LF at h10 TT TV10
      go_wp2_with (fail)
      refine (says_is TV10.out (HP.out.below h10.b) h10.a (by simp) (show ([] : List Pr).length = 0 from rfl)).mono ?_
      rintro e W11 ⟨rfl, hb11⟩
      have h11 := h10.below hb11
      clear hb11 h10
      go_wp2_with (fail)
      refine (says_is TT.out (HP.out.below h11.b) h11.a (by simp) (show ([] : List Pr).length = 0 from rfl)).mono ?_
      rintro e W12 ⟨rfl, hb12⟩
      have h12 := h11.below hb12
      clear hb12 h11
      go_wp2_with (fail)
      refine (high_is (h := (H : Int)) (HP.out.below h12.b) (by simp) (show ([] : List Pr).length = 0 from rfl) (by rw [HH.out])).mono ?_
      rintro e W13 ⟨rfl, hb13⟩
      have h13 := h12.below hb13
      clear hb13 h12
      go_wp2_with (go_at_call 25; ((with_reducible refine (jawake_any W13).mono ?_); rintro e W14 ⟨rfl, hb14⟩; have h14 := h13.below hb14; clear hb14 h13))
      go_ret
      exact ⟨rfl, HBW.out.trans (h14.b.mono HBW.out.size)⟩
    · by_cases hcn : c = I
      · have hKc : c = K := by omega
        subst hcn
        subst hKc
        have PT := Lib.hid (prs_take HP.out (c) (by omega))
        obtain ⟨aD, hdl, hPD, hDc⟩ := prs_drop HP.out c (by omega)
        obtain ⟨_, rfl⟩ := hDc.resolve_right (fun h => h.1 rfl)
        rw [Nat.sub_self] at hPD
        have PD := Lib.hid hPD
        have DL := Lib.hid (hdl.trans (show l.length - c = 0 by omega))
        have hPM := prs_take hPD (c - c) (by rw [hdl]; omega)
        have PM := Lib.hid hPM.2
        have ML := Lib.hid (hPM.1.trans (Nat.sub_self c))
        clear hPD hDc hdl hPM
        obtain ⟨e1, e2, b1, b2, b3, b4, b5⟩ := three_app l (c) (c) (by omega) (by omega)
        have E1 := Lib.hid e1
        have E2 := Lib.hid e2
        have E3 := Lib.hid (show l.take (c) ++ l.drop (c) = l from List.take_append_drop _ l)
        have E4 := Lib.hid (show l.take (c) ++ l.drop (c) = l from List.take_append_drop _ l)
        have BB := Lib.hid (And.intro b1 (And.intro b2 (And.intro b3 (And.intro b4 b5))))
        have hi0 : (0 : Int) ≤ ((c : Nat) : Int) := by omega
        have hk0 : (0 : Int) ≤ ((c : Nat) : Int) := by omega
        have hik : ((c : Nat) : Int) ≤ ((c : Nat) : Int) := by omega
        have hkl : ((c : Nat) : Int) ≤ (l.length : Int) := by omega
        have hkc : ((c : Nat) : Int) ≤ (c : Int) := by omega
        have hic : ((c : Nat) : Int) ≤ (c : Int) := by omega
        have hil : ((c : Nat) : Int) ≤ (l.length : Int) := by omega
        have S1 := Lib.hid (show Srt (l.take (c) ++ (l.drop (c)).take ((c) - (c))) by rw [e1]; have h := HS.out; rw [← E4.out] at h; exact h.two.1)
        have S2 := Lib.hid (show Srt ((l.drop (c)).take ((c) - (c)) ++ l.drop (c)) by rw [e2]; have h := HS.out; rw [← E3.out] at h; exact h.two.2.1)
        clear e1 e2 b1 b2 b3 b4 b5
        go_wp2_with (fail)
        refine (new_held 2000 2000 W2 _ hbx (by decide)).mono ?_
        rintro e W3 ⟨p, rfl, h1⟩
        clear hbx
        go_wp2_with (fail)
        refine (laid_is PT.out.2 h1 Good.nil (by rw [PT.out.1]; simp; omega) (by rw [PT.out.1]; omega) PT.out.1).mono ?_
        rintro e W4 ⟨x, L1, rfl, h4, n4, t4, g4⟩
        rw [List.nil_append] at h4 t4 g4
        have N4 := Lib.hid (show L1.length ≤ 40 by rw [n4, PT.out.1]; omega)
        have T4 := Lib.hid t4
        have G4 := Lib.hid g4
        clear n4 t4 g4 h1
        go_wp2_with (fail)
        refine (laid_is PM.out h4 G4.out (by rw [ML.out]; have := N4.out; omega) (by rw [ML.out]; omega) ML.out).mono ?_
        rintro e W5 ⟨y, L2, rfl, h5, n5, t5, g5⟩
        have N5 := Lib.hid (show (L1 ++ L2).length ≤ 80 by rw [List.length_append, n5, ML.out]; have := N4.out; omega)
        have T5 := Lib.hid t5
        have G5 := Lib.hid g5
        have T45 := Lib.hid (T4.out.app L2)
        clear n5 t5 g5 h4
        generalize L1 ++ L2 = LA at h5 T5 T45 N5 G5
        go_wp2_with (fail)
        refine (laid_is PD.out h5 G5.out (by rw [DL.out]; have := N5.out; omega) (by rw [DL.out]; omega) DL.out).mono ?_
        rintro e W6 ⟨z, L3, rfl, h6, n6, t6, g6⟩
        have N6 := Lib.hid (show (LA ++ L3).length ≤ 120 by rw [List.length_append, n6, DL.out]; have := N5.out; omega)
        have TZ := Lib.hid t6
        have TX := Lib.hid (T45.out.app L3)
        have TY := Lib.hid (T5.out.app L3)
        clear n6 t6 g6 h5
        generalize LA ++ L3 = LB at h6 TX TY TZ N6
        go_wp2_with (fail)
        refine (two_ok h6 TX.out TY.out (by rw [PT.out.1, ML.out]; omega) S1.out (by have := N6.out; have := BB.out; omega)).mono ?_
        rintro e W7 ⟨u, M1, rfl, h7, m7, t7⟩
        rw [E1.out] at t7
        have TU := Lib.hid t7
        have TX7 := Lib.hid (TX.out.app M1)
        have TY7 := Lib.hid (TY.out.app M1)
        have TZ7 := Lib.hid (TZ.out.app M1)
        have N7 := Lib.hid (show (LB ++ M1).length ≤ 200 by rw [List.length_append]; have := N6.out; have := BB.out; omega)
        clear m7 t7 h6
        generalize LB ++ M1 = LC at h7 TU TX7 TY7 TZ7 N7
        go_wp2_with (fail)
        refine (two_ok h7 TU.out TZ7.out (by rw [DL.out, List.length_take]; omega) (by rw [E4.out]; exact HS.out) (by have := N7.out; have := BB.out; omega)).mono ?_
        rintro e W8 ⟨v, M2, rfl, h8, m8, t8⟩
        rw [E4.out] at t8
        have TV := Lib.hid t8
        have TX8 := Lib.hid (TX7.out.app M2)
        have TY8 := Lib.hid (TY7.out.app M2)
        have TZ8 := Lib.hid (TZ7.out.app M2)
        have N8 := Lib.hid (show (LC ++ M2).length ≤ 280 by rw [List.length_append]; have := N7.out; have := BB.out; omega)
        clear m8 t8 h7
        generalize LC ++ M2 = LD at h8 TV TX8 TY8 TZ8 N8
        go_wp2_with (fail)
        refine (two_ok h8 TY8.out TZ8.out (by rw [DL.out, ML.out]; omega) S2.out (by have := N8.out; have := BB.out; omega)).mono ?_
        rintro e W9 ⟨q, M3, rfl, h9, m9, t9⟩
        rw [E2.out] at t9
        have TQ := Lib.hid t9
        have TX9 := Lib.hid (TX8.out.app M3)
        have TV9 := Lib.hid (TV.out.app M3)
        have N9 := Lib.hid (show (LD ++ M3).length ≤ 360 by rw [List.length_append]; have := N8.out; have := BB.out; omega)
        clear m9 t9 h8
        generalize LD ++ M3 = LE at h9 TQ TX9 TV9 N9
        go_wp2_with (fail)
        refine (two_ok h9 TX9.out TQ.out (by rw [PT.out.1, List.length_drop]; omega) (by rw [E3.out]; exact HS.out) (by have := N9.out; have := BB.out; omega)).mono ?_
        rintro e W10 ⟨t, M4, rfl, h10, m10, t10⟩
        rw [E3.out] at t10
        have TT := Lib.hid t10
        have TV10 := Lib.hid (TV9.out.app M4)
        obtain ⟨H, hH⟩ : ∃ H : Nat, hi l = H := ⟨_, rfl⟩
        have hHl := hi_le _ l (Nat.le_refl _)
        rw [hH] at hHl
        have HH := Lib.hid hH
        have hHd : decide ((H : Int) ≤ (l.length : Int)) = true := by rw [decide_eq_true_iff]; omega
        clear m10 t10 h9 hH
        generalize LE ++ M4 = LF at h10 TT TV10
        go_wp2_with (fail)
        refine (says_is TV10.out (HP.out.below h10.b) h10.a (by omega) rfl).mono ?_
        rintro e W11 ⟨rfl, hb11⟩
        have h11 := h10.below hb11
        clear hb11 h10
        go_wp2_with (fail)
        refine (says_is TT.out (HP.out.below h11.b) h11.a (by omega) rfl).mono ?_
        rintro e W12 ⟨rfl, hb12⟩
        have h12 := h11.below hb12
        clear hb12 h11
        go_wp2_with (fail)
        refine (high_is (h := (H : Int)) (HP.out.below h12.b) (by omega) rfl (by rw [HH.out])).mono ?_
        rintro e W13 ⟨rfl, hb13⟩
        have h13 := h12.below hb13
        clear hb13 h12
        go_wp2_with (go_at_call 25; ((with_reducible refine (jawake_any W13).mono ?_); rintro e W14 ⟨rfl, hb14⟩; have h14 := h13.below hb14; clear hb14 h13))
        go_ret
        exact ⟨rfl, HBW.out.trans (h14.b.mono HBW.out.size)⟩
      · by_cases hcm : c = K
        · subst hcm
          have PT := Lib.hid (prs_take HP.out (I) (by omega))
          obtain ⟨aD, hdl, hPD, hDc⟩ := prs_drop HP.out c (by omega)
          obtain ⟨_, rfl⟩ := hDc.resolve_right (fun h => h.1 rfl)
          rw [Nat.sub_self] at hPD
          have PD := Lib.hid hPD
          have DL := Lib.hid (hdl.trans (show l.length - c = 0 by omega))
          obtain ⟨aM, hml, hPM0, hMc⟩ := prs_drop HP.out I (by omega)
          obtain ⟨_, rfl⟩ := hMc.resolve_left (fun h => hcn h.1)
          have hPM := prs_take hPM0 (c - I) (by rw [hml]; omega)
          have PM := Lib.hid hPM.2
          have ML := Lib.hid hPM.1
          clear hPD hDc hdl hPM hPM0 hMc hml
          obtain ⟨e1, e2, b1, b2, b3, b4, b5⟩ := three_app l (I) (c) (by omega) (by omega)
          have E1 := Lib.hid e1
          have E2 := Lib.hid e2
          have E3 := Lib.hid (show l.take (I) ++ l.drop (I) = l from List.take_append_drop _ l)
          have E4 := Lib.hid (show l.take (c) ++ l.drop (c) = l from List.take_append_drop _ l)
          have BB := Lib.hid (And.intro b1 (And.intro b2 (And.intro b3 (And.intro b4 b5))))
          have hi0 : (0 : Int) ≤ ((I : Nat) : Int) := by omega
          have hk0 : (0 : Int) ≤ ((c : Nat) : Int) := by omega
          have hik : ((I : Nat) : Int) ≤ ((c : Nat) : Int) := by omega
          have hkl : ((c : Nat) : Int) ≤ (l.length : Int) := by omega
          have hkc : ((c : Nat) : Int) ≤ (c : Int) := by omega
          have hic : ((I : Nat) : Int) ≤ (c : Int) := by omega
          have hil : ((I : Nat) : Int) ≤ (l.length : Int) := by omega
          have S1 := Lib.hid (show Srt (l.take (I) ++ (l.drop (I)).take ((c) - (I))) by rw [e1]; have h := HS.out; rw [← E4.out] at h; exact h.two.1)
          have S2 := Lib.hid (show Srt ((l.drop (I)).take ((c) - (I)) ++ l.drop (c)) by rw [e2]; have h := HS.out; rw [← E3.out] at h; exact h.two.2.1)
          clear e1 e2 b1 b2 b3 b4 b5
          go_wp2_with (fail)
          refine (new_held 2000 2000 W2 _ hbx (by decide)).mono ?_
          rintro e W3 ⟨p, rfl, h1⟩
          clear hbx
          go_wp2_with (fail)
          refine (laid_is PT.out.2 h1 Good.nil (by rw [PT.out.1]; simp; omega) (by rw [PT.out.1]; omega) PT.out.1).mono ?_
          rintro e W4 ⟨x, L1, rfl, h4, n4, t4, g4⟩
          rw [List.nil_append] at h4 t4 g4
          have N4 := Lib.hid (show L1.length ≤ 40 by rw [n4, PT.out.1]; omega)
          have T4 := Lib.hid t4
          have G4 := Lib.hid g4
          clear n4 t4 g4 h1
          go_wp2_with (fail)
          refine (laid_is PM.out h4 G4.out (by rw [ML.out]; have := N4.out; omega) (by rw [ML.out]; omega) ML.out).mono ?_
          rintro e W5 ⟨y, L2, rfl, h5, n5, t5, g5⟩
          have N5 := Lib.hid (show (L1 ++ L2).length ≤ 80 by rw [List.length_append, n5, ML.out]; have := N4.out; omega)
          have T5 := Lib.hid t5
          have G5 := Lib.hid g5
          have T45 := Lib.hid (T4.out.app L2)
          clear n5 t5 g5 h4
          generalize L1 ++ L2 = LA at h5 T5 T45 N5 G5
          go_wp2_with (fail)
          refine (laid_is PD.out h5 G5.out (by rw [DL.out]; have := N5.out; omega) (by rw [DL.out]; omega) DL.out).mono ?_
          rintro e W6 ⟨z, L3, rfl, h6, n6, t6, g6⟩
          have N6 := Lib.hid (show (LA ++ L3).length ≤ 120 by rw [List.length_append, n6, DL.out]; have := N5.out; omega)
          have TZ := Lib.hid t6
          have TX := Lib.hid (T45.out.app L3)
          have TY := Lib.hid (T5.out.app L3)
          clear n6 t6 g6 h5
          generalize LA ++ L3 = LB at h6 TX TY TZ N6
          go_wp2_with (fail)
          refine (two_ok h6 TX.out TY.out (by rw [PT.out.1, ML.out]; omega) S1.out (by have := N6.out; have := BB.out; omega)).mono ?_
          rintro e W7 ⟨u, M1, rfl, h7, m7, t7⟩
          rw [E1.out] at t7
          have TU := Lib.hid t7
          have TX7 := Lib.hid (TX.out.app M1)
          have TY7 := Lib.hid (TY.out.app M1)
          have TZ7 := Lib.hid (TZ.out.app M1)
          have N7 := Lib.hid (show (LB ++ M1).length ≤ 200 by rw [List.length_append]; have := N6.out; have := BB.out; omega)
          clear m7 t7 h6
          generalize LB ++ M1 = LC at h7 TU TX7 TY7 TZ7 N7
          go_wp2_with (fail)
          refine (two_ok h7 TU.out TZ7.out (by rw [DL.out, List.length_take]; omega) (by rw [E4.out]; exact HS.out) (by have := N7.out; have := BB.out; omega)).mono ?_
          rintro e W8 ⟨v, M2, rfl, h8, m8, t8⟩
          rw [E4.out] at t8
          have TV := Lib.hid t8
          have TX8 := Lib.hid (TX7.out.app M2)
          have TY8 := Lib.hid (TY7.out.app M2)
          have TZ8 := Lib.hid (TZ7.out.app M2)
          have N8 := Lib.hid (show (LC ++ M2).length ≤ 280 by rw [List.length_append]; have := N7.out; have := BB.out; omega)
          clear m8 t8 h7
          generalize LC ++ M2 = LD at h8 TV TX8 TY8 TZ8 N8
          go_wp2_with (fail)
          refine (two_ok h8 TY8.out TZ8.out (by rw [DL.out, ML.out]; omega) S2.out (by have := N8.out; have := BB.out; omega)).mono ?_
          rintro e W9 ⟨q, M3, rfl, h9, m9, t9⟩
          rw [E2.out] at t9
          have TQ := Lib.hid t9
          have TX9 := Lib.hid (TX8.out.app M3)
          have TV9 := Lib.hid (TV.out.app M3)
          have N9 := Lib.hid (show (LD ++ M3).length ≤ 360 by rw [List.length_append]; have := N8.out; have := BB.out; omega)
          clear m9 t9 h8
          generalize LD ++ M3 = LE at h9 TQ TX9 TV9 N9
          go_wp2_with (fail)
          refine (two_ok h9 TX9.out TQ.out (by rw [PT.out.1, List.length_drop]; omega) (by rw [E3.out]; exact HS.out) (by have := N9.out; have := BB.out; omega)).mono ?_
          rintro e W10 ⟨t, M4, rfl, h10, m10, t10⟩
          rw [E3.out] at t10
          have TT := Lib.hid t10
          have TV10 := Lib.hid (TV9.out.app M4)
          obtain ⟨H, hH⟩ : ∃ H : Nat, hi l = H := ⟨_, rfl⟩
          have hHl := hi_le _ l (Nat.le_refl _)
          rw [hH] at hHl
          have HH := Lib.hid hH
          have hHd : decide ((H : Int) ≤ (l.length : Int)) = true := by rw [decide_eq_true_iff]; omega
          clear m10 t10 h9 hH
          generalize LE ++ M4 = LF at h10 TT TV10
          go_wp2_with (fail)
          refine (says_is TV10.out (HP.out.below h10.b) h10.a (by omega) rfl).mono ?_
          rintro e W11 ⟨rfl, hb11⟩
          have h11 := h10.below hb11
          clear hb11 h10
          go_wp2_with (fail)
          refine (says_is TT.out (HP.out.below h11.b) h11.a (by omega) rfl).mono ?_
          rintro e W12 ⟨rfl, hb12⟩
          have h12 := h11.below hb12
          clear hb12 h11
          go_wp2_with (fail)
          refine (high_is (h := (H : Int)) (HP.out.below h12.b) (by omega) rfl (by rw [HH.out])).mono ?_
          rintro e W13 ⟨rfl, hb13⟩
          have h13 := h12.below hb13
          clear hb13 h12
          go_wp2_with (go_at_call 25; ((with_reducible refine (jawake_any W13).mono ?_); rintro e W14 ⟨rfl, hb14⟩; have h14 := h13.below hb14; clear hb14 h13))
          go_ret
          exact ⟨rfl, HBW.out.trans (h14.b.mono HBW.out.size)⟩
        · have PT := Lib.hid (prs_take HP.out (I) (by omega))
          obtain ⟨aD, hdl, hPD, hDc⟩ := prs_drop HP.out K (by omega)
          obtain ⟨_, rfl⟩ := hDc.resolve_left (fun h => hcm h.1)
          have PD := Lib.hid hPD
          have DL := Lib.hid hdl
          obtain ⟨aM, hml, hPM0, hMc⟩ := prs_drop HP.out I (by omega)
          obtain ⟨_, rfl⟩ := hMc.resolve_left (fun h => hcn h.1)
          have hPM := prs_take hPM0 (K - I) (by rw [hml]; omega)
          have PM := Lib.hid hPM.2
          have ML := Lib.hid hPM.1
          clear hPD hDc hdl hPM hPM0 hMc hml
          obtain ⟨e1, e2, b1, b2, b3, b4, b5⟩ := three_app l (I) (K) (by omega) (by omega)
          have E1 := Lib.hid e1
          have E2 := Lib.hid e2
          have E3 := Lib.hid (show l.take (I) ++ l.drop (I) = l from List.take_append_drop _ l)
          have E4 := Lib.hid (show l.take (K) ++ l.drop (K) = l from List.take_append_drop _ l)
          have BB := Lib.hid (And.intro b1 (And.intro b2 (And.intro b3 (And.intro b4 b5))))
          have hi0 : (0 : Int) ≤ ((I : Nat) : Int) := by omega
          have hk0 : (0 : Int) ≤ ((K : Nat) : Int) := by omega
          have hik : ((I : Nat) : Int) ≤ ((K : Nat) : Int) := by omega
          have hkl : ((K : Nat) : Int) ≤ (l.length : Int) := by omega
          have hkc : ((K : Nat) : Int) ≤ (c : Int) := by omega
          have hic : ((I : Nat) : Int) ≤ (c : Int) := by omega
          have hil : ((I : Nat) : Int) ≤ (l.length : Int) := by omega
          have S1 := Lib.hid (show Srt (l.take (I) ++ (l.drop (I)).take ((K) - (I))) by rw [e1]; have h := HS.out; rw [← E4.out] at h; exact h.two.1)
          have S2 := Lib.hid (show Srt ((l.drop (I)).take ((K) - (I)) ++ l.drop (K)) by rw [e2]; have h := HS.out; rw [← E3.out] at h; exact h.two.2.1)
          clear e1 e2 b1 b2 b3 b4 b5
          go_wp2_with (fail)
          refine (new_held 2000 2000 W2 _ hbx (by decide)).mono ?_
          rintro e W3 ⟨p, rfl, h1⟩
          clear hbx
          go_wp2_with (fail)
          refine (laid_is PT.out.2 h1 Good.nil (by rw [PT.out.1]; simp; omega) (by rw [PT.out.1]; omega) PT.out.1).mono ?_
          rintro e W4 ⟨x, L1, rfl, h4, n4, t4, g4⟩
          rw [List.nil_append] at h4 t4 g4
          have N4 := Lib.hid (show L1.length ≤ 40 by rw [n4, PT.out.1]; omega)
          have T4 := Lib.hid t4
          have G4 := Lib.hid g4
          clear n4 t4 g4 h1
          go_wp2_with (fail)
          refine (laid_is PM.out h4 G4.out (by rw [ML.out]; have := N4.out; omega) (by rw [ML.out]; omega) ML.out).mono ?_
          rintro e W5 ⟨y, L2, rfl, h5, n5, t5, g5⟩
          have N5 := Lib.hid (show (L1 ++ L2).length ≤ 80 by rw [List.length_append, n5, ML.out]; have := N4.out; omega)
          have T5 := Lib.hid t5
          have G5 := Lib.hid g5
          have T45 := Lib.hid (T4.out.app L2)
          clear n5 t5 g5 h4
          generalize L1 ++ L2 = LA at h5 T5 T45 N5 G5
          go_wp2_with (fail)
          refine (laid_is PD.out h5 G5.out (by rw [DL.out]; have := N5.out; omega) (by rw [DL.out]; omega) DL.out).mono ?_
          rintro e W6 ⟨z, L3, rfl, h6, n6, t6, g6⟩
          have N6 := Lib.hid (show (LA ++ L3).length ≤ 120 by rw [List.length_append, n6, DL.out]; have := N5.out; omega)
          have TZ := Lib.hid t6
          have TX := Lib.hid (T45.out.app L3)
          have TY := Lib.hid (T5.out.app L3)
          clear n6 t6 g6 h5
          generalize LA ++ L3 = LB at h6 TX TY TZ N6
          go_wp2_with (fail)
          refine (two_ok h6 TX.out TY.out (by rw [PT.out.1, ML.out]; omega) S1.out (by have := N6.out; have := BB.out; omega)).mono ?_
          rintro e W7 ⟨u, M1, rfl, h7, m7, t7⟩
          rw [E1.out] at t7
          have TU := Lib.hid t7
          have TX7 := Lib.hid (TX.out.app M1)
          have TY7 := Lib.hid (TY.out.app M1)
          have TZ7 := Lib.hid (TZ.out.app M1)
          have N7 := Lib.hid (show (LB ++ M1).length ≤ 200 by rw [List.length_append]; have := N6.out; have := BB.out; omega)
          clear m7 t7 h6
          generalize LB ++ M1 = LC at h7 TU TX7 TY7 TZ7 N7
          go_wp2_with (fail)
          refine (two_ok h7 TU.out TZ7.out (by rw [DL.out, List.length_take]; omega) (by rw [E4.out]; exact HS.out) (by have := N7.out; have := BB.out; omega)).mono ?_
          rintro e W8 ⟨v, M2, rfl, h8, m8, t8⟩
          rw [E4.out] at t8
          have TV := Lib.hid t8
          have TX8 := Lib.hid (TX7.out.app M2)
          have TY8 := Lib.hid (TY7.out.app M2)
          have TZ8 := Lib.hid (TZ7.out.app M2)
          have N8 := Lib.hid (show (LC ++ M2).length ≤ 280 by rw [List.length_append]; have := N7.out; have := BB.out; omega)
          clear m8 t8 h7
          generalize LC ++ M2 = LD at h8 TV TX8 TY8 TZ8 N8
          go_wp2_with (fail)
          refine (two_ok h8 TY8.out TZ8.out (by rw [DL.out, ML.out]; omega) S2.out (by have := N8.out; have := BB.out; omega)).mono ?_
          rintro e W9 ⟨q, M3, rfl, h9, m9, t9⟩
          rw [E2.out] at t9
          have TQ := Lib.hid t9
          have TX9 := Lib.hid (TX8.out.app M3)
          have TV9 := Lib.hid (TV.out.app M3)
          have N9 := Lib.hid (show (LD ++ M3).length ≤ 360 by rw [List.length_append]; have := N8.out; have := BB.out; omega)
          clear m9 t9 h8
          generalize LD ++ M3 = LE at h9 TQ TX9 TV9 N9
          go_wp2_with (fail)
          refine (two_ok h9 TX9.out TQ.out (by rw [PT.out.1, List.length_drop]; omega) (by rw [E3.out]; exact HS.out) (by have := N9.out; have := BB.out; omega)).mono ?_
          rintro e W10 ⟨t, M4, rfl, h10, m10, t10⟩
          rw [E3.out] at t10
          have TT := Lib.hid t10
          have TV10 := Lib.hid (TV9.out.app M4)
          obtain ⟨H, hH⟩ : ∃ H : Nat, hi l = H := ⟨_, rfl⟩
          have hHl := hi_le _ l (Nat.le_refl _)
          rw [hH] at hHl
          have HH := Lib.hid hH
          have hHd : decide ((H : Int) ≤ (l.length : Int)) = true := by rw [decide_eq_true_iff]; omega
          clear m10 t10 h9 hH
          generalize LE ++ M4 = LF at h10 TT TV10
          go_wp2_with (fail)
          refine (says_is TV10.out (HP.out.below h10.b) h10.a (by omega) rfl).mono ?_
          rintro e W11 ⟨rfl, hb11⟩
          have h11 := h10.below hb11
          clear hb11 h10
          go_wp2_with (fail)
          refine (says_is TT.out (HP.out.below h11.b) h11.a (by omega) rfl).mono ?_
          rintro e W12 ⟨rfl, hb12⟩
          have h12 := h11.below hb12
          clear hb12 h11
          go_wp2_with (fail)
          refine (high_is (h := (H : Int)) (HP.out.below h12.b) (by omega) rfl (by rw [HH.out])).mono ?_
          rintro e W13 ⟨rfl, hb13⟩
          have h13 := h12.below hb13
          clear hb13 h12
          go_wp2_with (go_at_call 25; ((with_reducible refine (jawake_any W13).mono ?_); rintro e W14 ⟨rfl, hb14⟩; have h14 := h13.below hb14; clear hb14 h13))
          go_ret
          exact ⟨rfl, HBW.out.trans (h14.b.mono HBW.out.size)⟩

set_option maxRecDepth 100000 in
theorem lifted (os : Os) (started : os.Started) (H : Type) (enc : TypeId × Value → H) :
    ReturnsInHanded {} Try.checked os 10 .any (Rows.joinThreeSpec.pre6 enc Try.prog Try.f10 Rows.joinThreeRow.domain false) (Rows.joinThreeSpec.post enc Try.prog Try.f10 false true false false) := by
  refine returnsInHanded_of_change (C := Try.checked) own started (by kernel_rfl) Try.func10
    (ChangeSpec.witness6 (enc := enc) (C := Try.checked) false ⟨#[], #[.slice none 0 0, .int .i64 0, .int .i64 0], []⟩ 8 (by kernel_rfl) (by kernel_rfl) (by kernel_rfl) (by kernel_rfl)) ?_
  intro W base args ds gs before hval0 hW hcnd _
  have hval : ∀ (j : Nat) t v, Try.f10.params[j]? = some t → args[j]? = some v → Value.okWide Try.prog W .any base t v := hval0
  have hW' := hW
  obtain ⟨p, q, hA0, hV, rfl, hfz, hnd⟩ := hW
  have hA : DataW.TrodAll enc Try.prog W 0 (fun _ => true) true Try.f10.params.toList args.toList ds p := hA0
  rw [Try.params10] at hA hval
  obtain ⟨v0, vs0, d0, ds0, p0, q0, hargs, rfl, rfl, h0, r0⟩ := trodAll_cons hA
  obtain ⟨v1, vs1, d1, ds1, p1, q1, rfl, rfl, rfl, h1, r1⟩ := trodAll_cons r0
  obtain ⟨v2, vs2, d2, ds2, p2, q2, rfl, rfl, rfl, h2, r2⟩ := trodAll_cons r1
  obtain ⟨rfl, rfl, rfl⟩ := trodAll_nil r2
  obtain rfl : args = #[v0, v1, v2] := by cases args; simp_all
  obtain ⟨rfl, rfl⟩ := trodVars_none hV
  have k0 := h0
  have lt0 : ∀ x ∈ p0, x.block < W.heap.size := by obtain ⟨m, hm⟩ := k0; exact DataW.trod_lt m _ _ _ hm
  obtain ⟨b0, l0, c0, rfl⟩ := okWide_slice Try.underlying22 (hval 0 22 v0 rfl rfl)
  obtain ⟨a0, cap0, z0, e0, w0, g0⟩ := open_pairsw (enc := enc) (w := W) (v := .slice b0 l0 c0) (fuel := h0.choose) (by simpa [Value.cells] using h0.choose_spec)
  rw [e0] at hval k0 h0 hW' hval0 hA0
  have k1 := h1
  have lt1 : ∀ x ∈ p1, x.block < W.heap.size := by obtain ⟨m, hm⟩ := k1; exact DataW.trod_lt m _ _ _ hm
  obtain ⟨a1, rfl, rfl, rfl, w1⟩ := open_int Try.underlying3 (hval 1 3 v1 rfl rfl) h1
  have k2 := h2
  have lt2 : ∀ x ∈ p2, x.block < W.heap.size := by obtain ⟨m, hm⟩ := k2; exact DataW.trod_lt m _ _ _ hm
  obtain ⟨a2, rfl, rfl, rfl, w2⟩ := open_int Try.underlying3 (hval 2 3 v2 rfl rfl) h2
  clear hA0 hval0
  rw [e0]; refine (walk a0 cap0 z0 a1 a2 W w0 g0 w1 w2).mono fun e W' ⟨he, bel⟩ => ?_
  subst he
  exact ⟨_, rfl, _, _, _, [], _, [], hW', trodAll_mk1 (shut_bool Try.underlying4 _), (trodAll_cons_mk (Below.trod laidOut (by kernel_rfl) (of_decide_eq_true (by kernel_rfl)) k0 bel lt0) (trodAll_cons_mk (Below.trod laidOut (by kernel_rfl) (of_decide_eq_true (by kernel_rfl)) k1 bel lt1) (trodAll_cons_mk (Below.trod laidOut (by kernel_rfl) (of_decide_eq_true (by kernel_rfl)) k2 bel lt2) trodAll_mk0))), rfl, bel.frame _, fun h => by cases h⟩

theorem over : Rows.joinThreeRow.holds Try.pinned (OpenSpec.ofChange Rows.joinThreeSpec) :=
  OpenClaim.holds_of_wide 10 Try.f10 rfl rfl rfl rfl rfl rfl rfl ⟨rfl, rfl, rfl, rfl, rfl⟩ rfl rfl rfl rfl rfl (by kernel_rfl) Try.func10 (by kernel_rfl)
    (of_decide_eq_true (by kernel_rfl)) (by unfold Func.isWrapper; first | (rw [if_pos (by decide +kernel)]; kernel_rfl) | (rw [if_neg (by decide +kernel)]; exact ⟨rfl, rfl⟩))
    (fun os started H enc _ => lifted os started H enc)

theorem joinThreeHolds : Rows.JoinThreeSaid := over
#print axioms joinThreeHolds
end Go.Proofs.Ytellkcppgfghhaa.joinThree
