/- 'osierlaw8.JoinFull' returns true for every argument. No condition. -/
import Derived.Test.YtellkcppgfghhaaRows
import Derived.Test.YtellkcppgfghhaaJnZ
import Derived.Test.YtellkcppgfghhaaPaR
import Derived.Test.YtellkcppgfghhaaNForm
import Derived.Test.YtellkcppgfghhaaNArgs
import Derived.Deep.RegionHeld3
import Derived.LoopTactic
import Derived.WalkKit
import Derived.ProofKit
import Derived.OpenShut
import Derived.ChangeOld
import Derived.Below
namespace Go.Proofs.Ytellkcppgfghhaa.joinFull
open Go.ChangeShapes Go.WideShapes Go.ChangeAt Go.RowKit
set_option linter.all false

theorem own : ownKnob Try.prog.godebug = none := by kernel_rfl
theorem laidOut : laidOutB Try.prog = true := by kernel_rfl



set_option maxRecDepth 100000 in
set_option maxHeartbeats 25600000 in
theorem walk (a0 : Option Addr) (cap0 : Nat) (z0 : List Pr) (a1 : Int) (a2 : Int) (w : World) (w0 : Prs w a0 cap0 z0) (r0 : Rng z0) (w1 : (Lit.int .i64 a1).wf = true) (w2 : (Lit.int .i64 a2).wf = true) :
    Calls Try.prog 8 #[.slice a0 z0.length cap0, .int .i64 a1, .int .i64 a2] w fun e w' => e = .returned (.bool true) ∧ Below w.heap.size w w' := by
  have cp : ∀ W, Below w.heap.size w W → Calls Try.prog 11 #[.slice a0 z0.length cap0, .int .i64 40] W (PairsAt W 40) := fun W hb => pairs_at a0 cap0 z0 40 W (w0.below hb) r0 (by omega)
  clear w0 r0
  go_enter Try.func8, Try.ntmps8
  go_wp2_with (fail)
  refine (cp _ (Below.refl _ _)).mono ?_
  clear cp
  rintro e W2 ⟨ao, c, l, rfl, hl, hs, hr, hP, hform, hbw⟩
  have HBW := Lib.hid hbw
  have HP := Lib.hid hP
  have HS := Lib.hid hs
  have FORM := Lib.hid hform
  have hc1 := hP.1
  have hc2 := hP.2.1
  unfold maxLen at hc2
  obtain ⟨nk, hnk, hum⟩ := umod a1 ((l.length : Int) + 1) (by omega) (by omega)
  have hnk2 : (nk : Int) ≤ (l.length : Int) := by omega
  have hnk3 : (nk : Int) ≤ (c : Int) := by omega
  have hnk0 : (0 : Int) ≤ (nk : Int) := by omega
  have HU := Lib.hid hum
  clear hP hs hr hbw hform hum hnk
  go_wp2_with (fail)
  rw [HU.out]
  clear HU
  rcases FORM.out with ⟨rfl, rfl, rfl⟩ | ⟨b, o, rfl⟩
  · obtain rfl : nk = 0 := by simp at hnk2; omega
    have PT := Lib.hid (prs_take HP.out 0 (by simp))
    have PD := Lib.hid (show Prs W2 none 0 (List.drop 0 []) from HP.out)
    have DL := Lib.hid (show (List.drop 0 ([] : List Pr)).length = 0 from rfl)
    obtain ⟨H1, hH1⟩ : ∃ H : Nat, hi (List.take 0 ([] : List Pr)) = H := ⟨_, rfl⟩
    obtain ⟨H2, hH2⟩ : ∃ H : Nat, hi (List.drop 0 ([] : List Pr)) = H := ⟨_, rfl⟩
    have b1 := hi_le _ (List.take 0 ([] : List Pr)) (Nat.le_refl _)
    have b2 := hi_le _ (List.drop 0 ([] : List Pr)) (Nat.le_refl _)
    rw [hH1, PT.out.1] at b1
    rw [hH2] at b2
    simp at b2
    have hnil : ([] : List Pr).length = 0 := rfl
    have HH1 := Lib.hid hH1
    have HH2 := Lib.hid hH2
    have TD := Lib.hid (List.take_append_drop 0 ([] : List Pr))
    have ST := Lib.hid (show Srt (List.take 0 ([] : List Pr) ++ List.drop 0 ([] : List Pr)) by rw [TD.out]; exact HS.out)
    obtain rfl : H1 = 0 := by omega
    obtain rfl : H2 = 0 := by omega
    clear hH1 hH2
    have hsum : IntKind.i64.wrap ((0 : Int) + (0 : Int)) = (0 : Int) + (0 : Int) := by rw [IntKind.wrap_i64]; omega
    have c1 := fun (W : World) (hb : Below W2.heap.size W2 W) => high_is (h := (0 : Int)) (PT.out.2.below hb) (by rw [PT.out.1]; omega) PT.out.1 (by rw [HH1.out]; rfl)
    have c2 := fun (W : World) (hb : Below W2.heap.size W2 W) => high_is (h := (0 : Int)) (PD.out.below hb) (by rw [DL.out]; omega) DL.out (by rw [HH2.out]; rfl)
    have hb0 := Below.refl W2.heap.size W2
    go_region_held3 (fun W => Below W2.heap.size W2 W)
      (first | exact Below.drew (by assumption) | exact Below.trans (by assumption) (hb.mono (Below.size (by assumption))) | go_keep)
      (first
        | (go_at_call 19; ((with_reducible refine (c1 _ (by assumption)).mono ?_); rintro e w2 ⟨rfl, hb⟩))
        | (go_at_call 19; ((with_reducible refine (c2 _ (by assumption)).mono ?_); rintro e w2 ⟨rfl, hb⟩)))
    clear c1 c2 hsum
    go_wp2_with (fail)
    refine (new_held 0 0 W2 _ (by assumption) (by omega)).mono ?_
    rintro e W3 ⟨p, rfl, h1⟩
    go_wp2_with (fail)
    refine (laid_is PT.out.2 h1 Good.nil (by rw [PT.out.1]; simp) (by rw [PT.out.1]; omega) PT.out.1).mono ?_
    rintro e W4 ⟨x, L1, rfl, h4, n4, t4, g4⟩
    rw [List.nil_append] at h4 t4 g4
    have N4 := Lib.hid (n4.trans PT.out.1)
    have T4 := Lib.hid t4
    have G4 := Lib.hid g4
    clear n4 t4 g4 h1
    go_wp2_with (fail)
    refine (laid_is PD.out h4 G4.out (by rw [DL.out, N4.out]; omega) (by rw [DL.out]; omega) DL.out).mono ?_
    rintro e W5 ⟨y, L2, rfl, h5, n5, t5, g5⟩
    have T5 := Lib.hid t5
    have TX := Lib.hid (T4.out.app L2)
    have N5 := Lib.hid (show (L1 ++ L2).length = 0 by rw [List.length_append, n5, N4.out, DL.out])
    clear n5 t5 g5 h4
    generalize L1 ++ L2 = LL at h5 TX T5 N5
    go_wp2_with (fail)
    refine (two_z h5.a TX.out T5.out (by rw [PT.out.1, DL.out]; omega) ST.out).mono ?_
    rintro e W6 ⟨t, er, M, rfl, hg, hq, hz⟩
    have h6 := h5.grew hg (fun _ hk => hk)
    rw [TD.out, HH1.out, HH2.out] at hq
    have TX2 := Lib.hid (TX.out.app M)
    have TY2 := Lib.hid (T5.out.app M)
    clear hg h5
    rcases hq with ⟨rfl, hM, hT⟩ | ⟨rfl, hroom, hM⟩
    · have TT := Lib.hid hT
      clear hT hM hz
      generalize LL ++ M = LM at h6 TX2 TY2 TT
      go_wp2_with (fail)
      refine (says_is TX2.out (PT.out.2.below h6.b) h6.a (by rw [PT.out.1]; omega) PT.out.1).mono ?_
      rintro e W7 ⟨rfl, hb7⟩
      have h7 := h6.below hb7
      clear hb7 h6
      go_wp2_with (fail)
      refine (says_is TY2.out (PD.out.below h7.b) h7.a (by rw [DL.out]; omega) DL.out).mono ?_
      rintro e W8 ⟨rfl, hb8⟩
      have h8 := h7.below hb8
      clear hb8 h7
      go_wp2_with (fail)
      refine (says_is TT.out (HP.out.below h8.b) h8.a (by omega) rfl).mono ?_
      rintro e W9 ⟨rfl, hb9⟩
      have h9 := h8.below hb9
      clear hb9 h8
      go_wp2_with (go_at_call 25; ((with_reducible refine (jawake_any W9).mono ?_); rintro e W14 ⟨rfl, hb14⟩; have h14 := h9.below hb14; clear hb14 h9))
      go_ret
      exact ⟨rfl, HBW.out.trans (h14.b.mono HBW.out.size)⟩
    · exfalso; omega
  · by_cases hcn : c = nk
    · subst hcn
      have PT := Lib.hid (prs_take HP.out (c) (by omega))
      obtain ⟨aD, hdl, hPD, hDc⟩ := prs_drop HP.out c (by omega)
      obtain ⟨_, rfl⟩ := hDc.resolve_right (fun h => h.1 rfl)
      rw [Nat.sub_self] at hPD
      have PD := Lib.hid hPD
      have DL := Lib.hid (hdl.trans (show l.length - c = 0 by omega))
      clear hPD hDc hdl
      obtain ⟨H1, hH1⟩ : ∃ H : Nat, hi (l.take (c)) = H := ⟨_, rfl⟩
      obtain ⟨H2, hH2⟩ : ∃ H : Nat, hi (l.drop (c)) = H := ⟨_, rfl⟩
      have b1 := hi_le _ (l.take (c)) (Nat.le_refl _)
      have b2 := hi_le _ (l.drop (c)) (Nat.le_refl _)
      rw [hH1, PT.out.1] at b1
      rw [hH2, List.length_drop] at b2
      have HH1 := Lib.hid hH1
      have HH2 := Lib.hid hH2
      have TD := Lib.hid (List.take_append_drop (c) l)
      have ST := Lib.hid (show Srt (l.take (c) ++ l.drop (c)) by rw [TD.out]; exact HS.out)
      clear hH1 hH2
      have hsum : IntKind.i64.wrap ((H1 : Int) + (H2 : Int)) = (H1 : Int) + (H2 : Int) := by rw [IntKind.wrap_i64]; omega
      have c1 := fun (W : World) (hb : Below W2.heap.size W2 W) => high_is (h := (H1 : Int)) (PT.out.2.below hb) (by rw [PT.out.1]; omega) PT.out.1 (by rw [HH1.out])
      have c2 := fun (W : World) (hb : Below W2.heap.size W2 W) => high_is (h := (H2 : Int)) (PD.out.below hb) (by rw [DL.out]; omega) DL.out (by rw [HH2.out])
      have hb0 := Below.refl W2.heap.size W2
      go_region_held3 (fun W => Below W2.heap.size W2 W)
        (first | exact Below.drew (by assumption) | exact Below.trans (by assumption) (hb.mono (Below.size (by assumption))) | go_keep)
        (first
          | (go_at_call 19; ((with_reducible refine (c1 _ (by assumption)).mono ?_); rintro e w2 ⟨rfl, hb⟩))
          | (go_at_call 19; ((with_reducible refine (c2 _ (by assumption)).mono ?_); rintro e w2 ⟨rfl, hb⟩)))
      clear c1 c2 hsum
      obtain ⟨less, hless, hum2⟩ := umod a2 ((H1 : Int) + (H2 : Int) + 1) (by omega) (by omega)
      have HU2 := Lib.hid hum2
      clear hum2
      go_wp2_with (fail)
      rw [HU2.out]
      obtain ⟨R, hR, hR2⟩ : ∃ R : Int, wrap64 ((l.length : Int) + ((H1 : Int) + (H2 : Int)) - (less : Int)) = R ∧ R = (l.length : Int) + ((H1 : Int) + (H2 : Int)) - (less : Int) := ⟨_, by unfold wrap64; omega, rfl⟩
      rw [hR]
      clear HU2 hR
      refine (new_held R R W2 _ (by assumption) (by omega)).mono ?_
      rintro e W3 ⟨p, rfl, h1⟩
      go_wp2_with (fail)
      refine (laid_is PT.out.2 h1 Good.nil (by rw [PT.out.1]; simp; omega) (by rw [PT.out.1]; omega) PT.out.1).mono ?_
      rintro e W4 ⟨x, L1, rfl, h4, n4, t4, g4⟩
      rw [List.nil_append] at h4 t4 g4
      have N4 := Lib.hid (n4.trans PT.out.1)
      have T4 := Lib.hid t4
      have G4 := Lib.hid g4
      clear n4 t4 g4 h1
      go_wp2_with (fail)
      refine (laid_is PD.out h4 G4.out (by rw [DL.out, N4.out]; omega) (by rw [DL.out]; omega) DL.out).mono ?_
      rintro e W5 ⟨y, L2, rfl, h5, n5, t5, g5⟩
      have T5 := Lib.hid t5
      have TX := Lib.hid (T4.out.app L2)
      have N5 := Lib.hid (show (L1 ++ L2).length = l.length by rw [List.length_append, n5, N4.out, DL.out]; omega)
      clear n5 t5 g5 h4
      generalize L1 ++ L2 = LL at h5 TX T5 N5
      go_wp2_with (fail)
      refine (two_z h5.a TX.out T5.out (by rw [PT.out.1, DL.out]; omega) ST.out).mono ?_
      rintro e W6 ⟨t, er, M, rfl, hg, hq, hz⟩
      have h6 := h5.grew hg (fun _ hk => hk)
      rw [TD.out, HH1.out, HH2.out] at hq
      have TX2 := Lib.hid (TX.out.app M)
      have TY2 := Lib.hid (T5.out.app M)
      clear hg h5
      rcases hq with ⟨rfl, hM, hT⟩ | ⟨rfl, hroom, hM⟩
      · have TT := Lib.hid hT
        clear hT hM hz
        generalize LL ++ M = LM at h6 TX2 TY2 TT
        go_wp2_with (fail)
        refine (says_is TX2.out (PT.out.2.below h6.b) h6.a (by rw [PT.out.1]; omega) PT.out.1).mono ?_
        rintro e W7 ⟨rfl, hb7⟩
        have h7 := h6.below hb7
        clear hb7 h6
        go_wp2_with (fail)
        refine (says_is TY2.out (PD.out.below h7.b) h7.a (by rw [DL.out]; omega) DL.out).mono ?_
        rintro e W8 ⟨rfl, hb8⟩
        have h8 := h7.below hb8
        clear hb8 h7
        go_wp2_with (fail)
        refine (says_is TT.out (HP.out.below h8.b) h8.a (by omega) rfl).mono ?_
        rintro e W9 ⟨rfl, hb9⟩
        have h9 := h8.below hb9
        clear hb9 h8
        go_wp2_with (go_at_call 25; ((with_reducible refine (jawake_any W9).mono ?_); rintro e W14 ⟨rfl, hb14⟩; have h14 := h9.below hb14; clear hb14 h9))
        go_ret
        exact ⟨rfl, HBW.out.trans (h14.b.mono HBW.out.size)⟩
      · have hz0 := hz (by decide)
        subst hz0
        rw [List.length_append, N5.out] at hroom
        have hpos : (0 : Int) < (less : Int) := by omega
        have hposd : decide ((0 : Int) < (less : Int)) = true := decide_eq_true hpos
        clear hM hz hroom
        generalize LL ++ M = LM at h6 TX2 TY2
        go_wp2_with (fail)
        refine (says_is TX2.out (PT.out.2.below h6.b) h6.a (by rw [PT.out.1]; omega) PT.out.1).mono ?_
        rintro e W7 ⟨rfl, hb7⟩
        have h7 := h6.below hb7
        clear hb7 h6
        go_wp2_with (fail)
        refine (says_is TY2.out (PD.out.below h7.b) h7.a (by rw [DL.out]; omega) DL.out).mono ?_
        rintro e W8 ⟨rfl, hb8⟩
        have h8 := h7.below hb8
        clear hb8 h7
        go_wp2_with (go_at_call 25; ((with_reducible refine (jawake_any W8).mono ?_); rintro e W14 ⟨rfl, hb14⟩; have h14 := h8.below hb14; clear hb14 h8))
        go_ret
        exact ⟨rfl, HBW.out.trans (h14.b.mono HBW.out.size)⟩
    · have PT := Lib.hid (prs_take HP.out (nk) (by omega))
      obtain ⟨aD, hdl, hPD, hDc⟩ := prs_drop HP.out nk (by omega)
      obtain ⟨_, rfl⟩ := hDc.resolve_left (fun h => hcn h.1)
      have PD := Lib.hid hPD
      have DL := Lib.hid hdl
      clear hPD hDc hdl
      obtain ⟨H1, hH1⟩ : ∃ H : Nat, hi (l.take (nk)) = H := ⟨_, rfl⟩
      obtain ⟨H2, hH2⟩ : ∃ H : Nat, hi (l.drop (nk)) = H := ⟨_, rfl⟩
      have b1 := hi_le _ (l.take (nk)) (Nat.le_refl _)
      have b2 := hi_le _ (l.drop (nk)) (Nat.le_refl _)
      rw [hH1, PT.out.1] at b1
      rw [hH2, List.length_drop] at b2
      have HH1 := Lib.hid hH1
      have HH2 := Lib.hid hH2
      have TD := Lib.hid (List.take_append_drop (nk) l)
      have ST := Lib.hid (show Srt (l.take (nk) ++ l.drop (nk)) by rw [TD.out]; exact HS.out)
      clear hH1 hH2
      have hsum : IntKind.i64.wrap ((H1 : Int) + (H2 : Int)) = (H1 : Int) + (H2 : Int) := by rw [IntKind.wrap_i64]; omega
      have c1 := fun (W : World) (hb : Below W2.heap.size W2 W) => high_is (h := (H1 : Int)) (PT.out.2.below hb) (by rw [PT.out.1]; omega) PT.out.1 (by rw [HH1.out])
      have c2 := fun (W : World) (hb : Below W2.heap.size W2 W) => high_is (h := (H2 : Int)) (PD.out.below hb) (by rw [DL.out]; omega) DL.out (by rw [HH2.out])
      have hb0 := Below.refl W2.heap.size W2
      go_region_held3 (fun W => Below W2.heap.size W2 W)
        (first | exact Below.drew (by assumption) | exact Below.trans (by assumption) (hb.mono (Below.size (by assumption))) | go_keep)
        (first
          | (go_at_call 19; ((with_reducible refine (c1 _ (by assumption)).mono ?_); rintro e w2 ⟨rfl, hb⟩))
          | (go_at_call 19; ((with_reducible refine (c2 _ (by assumption)).mono ?_); rintro e w2 ⟨rfl, hb⟩)))
      clear c1 c2 hsum
      obtain ⟨less, hless, hum2⟩ := umod a2 ((H1 : Int) + (H2 : Int) + 1) (by omega) (by omega)
      have HU2 := Lib.hid hum2
      clear hum2
      go_wp2_with (fail)
      rw [HU2.out]
      obtain ⟨R, hR, hR2⟩ : ∃ R : Int, wrap64 ((l.length : Int) + ((H1 : Int) + (H2 : Int)) - (less : Int)) = R ∧ R = (l.length : Int) + ((H1 : Int) + (H2 : Int)) - (less : Int) := ⟨_, by unfold wrap64; omega, rfl⟩
      rw [hR]
      clear HU2 hR
      refine (new_held R R W2 _ (by assumption) (by omega)).mono ?_
      rintro e W3 ⟨p, rfl, h1⟩
      go_wp2_with (fail)
      refine (laid_is PT.out.2 h1 Good.nil (by rw [PT.out.1]; simp; omega) (by rw [PT.out.1]; omega) PT.out.1).mono ?_
      rintro e W4 ⟨x, L1, rfl, h4, n4, t4, g4⟩
      rw [List.nil_append] at h4 t4 g4
      have N4 := Lib.hid (n4.trans PT.out.1)
      have T4 := Lib.hid t4
      have G4 := Lib.hid g4
      clear n4 t4 g4 h1
      go_wp2_with (fail)
      refine (laid_is PD.out h4 G4.out (by rw [DL.out, N4.out]; omega) (by rw [DL.out]; omega) DL.out).mono ?_
      rintro e W5 ⟨y, L2, rfl, h5, n5, t5, g5⟩
      have T5 := Lib.hid t5
      have TX := Lib.hid (T4.out.app L2)
      have N5 := Lib.hid (show (L1 ++ L2).length = l.length by rw [List.length_append, n5, N4.out, DL.out]; omega)
      clear n5 t5 g5 h4
      generalize L1 ++ L2 = LL at h5 TX T5 N5
      go_wp2_with (fail)
      refine (two_z h5.a TX.out T5.out (by rw [PT.out.1, DL.out]; omega) ST.out).mono ?_
      rintro e W6 ⟨t, er, M, rfl, hg, hq, hz⟩
      have h6 := h5.grew hg (fun _ hk => hk)
      rw [TD.out, HH1.out, HH2.out] at hq
      have TX2 := Lib.hid (TX.out.app M)
      have TY2 := Lib.hid (T5.out.app M)
      clear hg h5
      rcases hq with ⟨rfl, hM, hT⟩ | ⟨rfl, hroom, hM⟩
      · have TT := Lib.hid hT
        clear hT hM hz
        generalize LL ++ M = LM at h6 TX2 TY2 TT
        go_wp2_with (fail)
        refine (says_is TX2.out (PT.out.2.below h6.b) h6.a (by rw [PT.out.1]; omega) PT.out.1).mono ?_
        rintro e W7 ⟨rfl, hb7⟩
        have h7 := h6.below hb7
        clear hb7 h6
        go_wp2_with (fail)
        refine (says_is TY2.out (PD.out.below h7.b) h7.a (by rw [DL.out]; omega) DL.out).mono ?_
        rintro e W8 ⟨rfl, hb8⟩
        have h8 := h7.below hb8
        clear hb8 h7
        go_wp2_with (fail)
        refine (says_is TT.out (HP.out.below h8.b) h8.a (by omega) rfl).mono ?_
        rintro e W9 ⟨rfl, hb9⟩
        have h9 := h8.below hb9
        clear hb9 h8
        go_wp2_with (go_at_call 25; ((with_reducible refine (jawake_any W9).mono ?_); rintro e W14 ⟨rfl, hb14⟩; have h14 := h9.below hb14; clear hb14 h9))
        go_ret
        exact ⟨rfl, HBW.out.trans (h14.b.mono HBW.out.size)⟩
      · have hz0 := hz (by decide)
        subst hz0
        rw [List.length_append, N5.out] at hroom
        have hpos : (0 : Int) < (less : Int) := by omega
        have hposd : decide ((0 : Int) < (less : Int)) = true := decide_eq_true hpos
        clear hM hz hroom
        generalize LL ++ M = LM at h6 TX2 TY2
        go_wp2_with (fail)
        refine (says_is TX2.out (PT.out.2.below h6.b) h6.a (by rw [PT.out.1]; omega) PT.out.1).mono ?_
        rintro e W7 ⟨rfl, hb7⟩
        have h7 := h6.below hb7
        clear hb7 h6
        go_wp2_with (fail)
        refine (says_is TY2.out (PD.out.below h7.b) h7.a (by rw [DL.out]; omega) DL.out).mono ?_
        rintro e W8 ⟨rfl, hb8⟩
        have h8 := h7.below hb8
        clear hb8 h7
        go_wp2_with (go_at_call 25; ((with_reducible refine (jawake_any W8).mono ?_); rintro e W14 ⟨rfl, hb14⟩; have h14 := h8.below hb14; clear hb14 h8))
        go_ret
        exact ⟨rfl, HBW.out.trans (h14.b.mono HBW.out.size)⟩

set_option maxRecDepth 100000 in
theorem lifted (os : Os) (started : os.Started) (H : Type) (enc : TypeId × Value → H) :
    ReturnsInHanded {} Try.checked os 8 .any (Rows.joinFullSpec.pre6 enc Try.prog Try.f8 Rows.joinFullRow.domain false) (Rows.joinFullSpec.post enc Try.prog Try.f8 false true false false) := by
  refine returnsInHanded_of_change (C := Try.checked) own started (by kernel_rfl) Try.func8
    (ChangeSpec.witness6 (enc := enc) (C := Try.checked) false ⟨#[], #[.slice none 0 0, .int .i64 0, .int .i64 0], []⟩ 8 (by kernel_rfl) (by kernel_rfl) (by kernel_rfl) (by kernel_rfl)) ?_
  intro W base args ds gs before hval0 hW hcnd _
  have hval : ∀ (j : Nat) t v, Try.f8.params[j]? = some t → args[j]? = some v → Value.okWide Try.prog W .any base t v := hval0
  have hW' := hW
  obtain ⟨p, q, hA0, hV, rfl, hfz, hnd⟩ := hW
  have hA : DataW.TrodAll enc Try.prog W 0 (fun _ => true) true Try.f8.params.toList args.toList ds p := hA0
  rw [Try.params8] at hA hval
  obtain ⟨v0, vs0, d0, ds0, p0, q0, hargs, rfl, rfl, h0, r0⟩ := trodAll_cons hA
  obtain ⟨v1, vs1, d1, ds1, p1, q1, rfl, rfl, rfl, h1, r1⟩ := trodAll_cons r0
  obtain ⟨v2, vs2, d2, ds2, p2, q2, rfl, rfl, rfl, h2, r2⟩ := trodAll_cons r1
  obtain ⟨rfl, rfl, rfl⟩ := trodAll_nil r2
  obtain rfl : args = #[v0, v1, v2] := by cases args; simp_all
  obtain ⟨rfl, rfl⟩ := trodVars_none hV
  have k0 := h0
  have lt0 : ∀ x ∈ p0, x.block < W.heap.size := by obtain ⟨m, hm⟩ := k0; exact DataW.trod_lt m _ _ _ hm
  obtain ⟨b0, l0, c0, rfl⟩ := okWide_slice Try.underlying22 (hval 0 22 v0 rfl rfl)
  obtain ⟨a0, cap0, z0, e0, w0, g0⟩ := open_pairsw (enc := enc) (w := W) (v := .slice b0 l0 c0) (fuel := h0.choose) (by simpa [Value.cells] using h0.choose_spec)
  rw [e0] at hval k0 h0 hW' hval0 hA0
  have k1 := h1
  have lt1 : ∀ x ∈ p1, x.block < W.heap.size := by obtain ⟨m, hm⟩ := k1; exact DataW.trod_lt m _ _ _ hm
  obtain ⟨a1, rfl, rfl, rfl, w1⟩ := open_int Try.underlying3 (hval 1 3 v1 rfl rfl) h1
  have k2 := h2
  have lt2 : ∀ x ∈ p2, x.block < W.heap.size := by obtain ⟨m, hm⟩ := k2; exact DataW.trod_lt m _ _ _ hm
  obtain ⟨a2, rfl, rfl, rfl, w2⟩ := open_int Try.underlying3 (hval 2 3 v2 rfl rfl) h2
  clear hA0 hval0
  rw [e0]; refine (walk a0 cap0 z0 a1 a2 W w0 g0 w1 w2).mono fun e W' ⟨he, bel⟩ => ?_
  subst he
  exact ⟨_, rfl, _, _, _, [], _, [], hW', trodAll_mk1 (shut_bool Try.underlying4 _), (trodAll_cons_mk (Below.trod laidOut (by kernel_rfl) (of_decide_eq_true (by kernel_rfl)) k0 bel lt0) (trodAll_cons_mk (Below.trod laidOut (by kernel_rfl) (of_decide_eq_true (by kernel_rfl)) k1 bel lt1) (trodAll_cons_mk (Below.trod laidOut (by kernel_rfl) (of_decide_eq_true (by kernel_rfl)) k2 bel lt2) trodAll_mk0))), rfl, bel.frame _, fun h => by cases h⟩

theorem over : Rows.joinFullRow.holds Try.pinned (OpenSpec.ofChange Rows.joinFullSpec) :=
  OpenClaim.holds_of_wide 8 Try.f8 rfl rfl rfl rfl rfl rfl rfl ⟨rfl, rfl, rfl, rfl, rfl⟩ rfl rfl rfl rfl rfl (by kernel_rfl) Try.func8 (by kernel_rfl)
    (of_decide_eq_true (by kernel_rfl)) (by unfold Func.isWrapper; first | (rw [if_pos (by decide +kernel)]; kernel_rfl) | (rw [if_neg (by decide +kernel)]; exact ⟨rfl, rfl⟩))
    (fun os started H enc _ => lifted os started H enc)

theorem joinFullHolds : Rows.JoinFullSaid := over
#print axioms joinFullHolds
end Go.Proofs.Ytellkcppgfghhaa.joinFull
