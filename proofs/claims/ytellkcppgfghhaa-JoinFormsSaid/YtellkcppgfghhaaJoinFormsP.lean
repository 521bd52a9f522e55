/- 'osierlaw8.JoinForms' returns true for every argument. No condition. -/
import Derived.Test.YtellkcppgfghhaaRows
import Derived.Test.YtellkcppgfghhaaJnZ
import Derived.Test.YtellkcppgfghhaaPaR
import Derived.Test.YtellkcppgfghhaaNForm
import Derived.Test.YtellkcppgfghhaaNArgs
import Derived.Deep.RegionHeld3
import Derived.LoopTactic
import Derived.WalkKit
import Derived.ProofKit
import Derived.OpenShut
import Derived.ChangeOld
import Derived.Below
namespace Go.Proofs.Ytellkcppgfghhaa.joinForms
open Go.ChangeShapes Go.WideShapes Go.ChangeAt Go.RowKit
set_option linter.all false

theorem own : ownKnob Try.prog.godebug = none := by kernel_rfl
theorem laidOut : laidOutB Try.prog = true := by kernel_rfl

theorem held_id {w0 w : World} {p : Nat} {room st : Int} {l : List It} (h : Held w0 w p room st l) : Held w0 w p room st l := h
theorem two_back {w : World} {p : Nat} {F : Nat → Prop} {room st : Int} {L : List It} {x y : Int} {A B : List Pr} (hA : Arena w p F room st L) (TA : Tree L x A) (TB : Tree L y B) (la : A.length ≤ 1000) (lb : B.length ≤ 1000) (hs : Srt (A ++ B)) :
    Calls Try.prog 24 #[.pointer (some ⟨p, 0, none⟩), .int .i64 y, .int .i64 x] w fun e w' => ∃ z f : Int, e = .returned (.tuple #[.int .i64 z, .int .i64 f]) ∧ Below w.heap.size w w' ∧ ((f = 1 ∧ 0 < A.length ∧ 0 < B.length) ∨ (f = 0 ∧ (A.length = 0 ∨ B.length = 0))) := by
  obtain ⟨sA, sB, hAB⟩ := hs.two
  by_cases hA0 : A.length = 0
  · obtain rfl := List.length_eq_zero_iff.1 hA0
    obtain rfl := TA.nil_zero
    refine (two_right hA TB lb sB).mono ?_
    rintro e w' ⟨rfl, hb⟩
    exact ⟨_, _, rfl, hb, .inr ⟨rfl, .inl rfl⟩⟩
  · by_cases hB0 : B.length = 0
    · obtain rfl := List.length_eq_zero_iff.1 hB0
      obtain rfl := TB.nil_zero
      refine (two_left hA TA la sA).mono ?_
      rintro e w' ⟨rfl, hb⟩
      exact ⟨_, _, rfl, hb, .inr ⟨rfl, .inr rfl⟩⟩
    · have h1 : B[B.length - 1]? = some B[B.length - 1] := List.getElem?_eq_getElem (by omega)
      have h2 : A[0]? = some A[0] := List.getElem?_eq_getElem (by omega)
      have := hAB _ (List.mem_of_getElem? h2) _ (List.mem_of_getElem? h1)
      refine (two_wrong hA TB TA lb la (meet_yes h1 h2 (by omega))).mono ?_
      rintro e w' ⟨rfl, hb⟩
      exact ⟨_, _, rfl, hb, .inl ⟨rfl, by omega, by omega⟩⟩
theorem two_self {w : World} {p : Nat} {F : Nat → Prop} {room st : Int} {L : List It} {t : Int} {l : List Pr} (hA : Arena w p F room st L) (T : Tree L t l) (la : l.length ≤ 1000) (hs : Srt l) :
    Calls Try.prog 24 #[.pointer (some ⟨p, 0, none⟩), .int .i64 t, .int .i64 t] w fun e w' => ∃ z f : Int, e = .returned (.tuple #[.int .i64 z, .int .i64 f]) ∧ Below w.heap.size w w' ∧ ((f = 1 ∧ 0 < l.length) ∨ (f = 0 ∧ l.length = 0)) := by
  by_cases h0 : l.length = 0
  · obtain rfl := List.length_eq_zero_iff.1 h0
    obtain rfl := T.nil_zero
    refine (two_right hA .nil la hs).mono ?_
    rintro e w' ⟨rfl, hb⟩
    exact ⟨_, _, rfl, hb, .inr ⟨rfl, rfl⟩⟩
  · have h1 : l[l.length - 1]? = some l[l.length - 1] := List.getElem?_eq_getElem (by omega)
    have h2 : l[0]? = some l[0] := List.getElem?_eq_getElem (by omega)
    have hle : (l[0]).1 ≤ (l[l.length - 1]).1 := by
      rcases Nat.eq_or_lt_of_le (show 0 ≤ l.length - 1 by omega) with e | hlt
      · simp [← e]
      · have := hs.at 0 (l.length - 1) _ _ hlt h2 h1
        omega
    refine (two_wrong hA T T la la (meet_yes h1 h2 hle)).mono ?_
    rintro e w' ⟨rfl, hb⟩
    exact ⟨_, _, rfl, hb, .inl ⟨rfl, by omega⟩⟩

set_option maxRecDepth 100000 in
set_option maxHeartbeats 25600000 in
theorem walk (a0 : Option Addr) (cap0 : Nat) (z0 : List Pr) (a1 : Int) (w : World) (w0 : Prs w a0 cap0 z0) (r0 : Rng z0) (w1 : (Lit.int .i64 a1).wf = true) :
    Calls Try.prog 6 #[.slice a0 z0.length cap0, .int .i64 a1] w fun e w' => e = .returned (.bool true) ∧ Below w.heap.size w w' := by
  have cp : ∀ W, Below w.heap.size w W → Calls Try.prog 11 #[.slice a0 z0.length cap0, .int .i64 50] W (PairsAt W 50) := fun W hb => pairs_at a0 cap0 z0 50 W (w0.below hb) r0 (by omega)
  clear w0 r0
  go_enter Try.func6, Try.ntmps6
  go_wp2_with (fail)
  refine (cp _ (Below.refl _ _)).mono ?_
  clear cp
  rintro e W2 ⟨ao, c, l, rfl, hl, hs, hr, hP, hform, hbw⟩
  have HBW := Lib.hid hbw
  have HP := Lib.hid hP
  have HS := Lib.hid hs
  have FORM := Lib.hid hform
  have hc1 := hP.1
  have hc2 := hP.2.1
  unfold maxLen at hc2
  obtain ⟨nk, hnk, hum⟩ := umod a1 ((l.length : Int) + 1) (by omega) (by omega)
  have hnk2 : (nk : Int) ≤ (l.length : Int) := by omega
  have hnk3 : (nk : Int) ≤ (c : Int) := by omega
  have hnk0 : (0 : Int) ≤ (nk : Int) := by omega
  have HU := Lib.hid hum
  clear hP hs hr hbw hform hum hnk
  go_wp2_with (fail)
  rw [HU.out]
  clear HU
  refine (new_held 400 400 W2 _ (Below.refl _ _) (by decide)).mono ?_
  rintro e W3 ⟨p, rfl, h1⟩
  rcases FORM.out with ⟨rfl, rfl, rfl⟩ | ⟨b, o, rfl⟩
  · obtain rfl : nk = 0 := by simp at hnk2; omega
    have PT := Lib.hid (prs_take HP.out 0 (by simp))
    have PD := Lib.hid (show Prs W2 none 0 (List.drop 0 []) from HP.out)
    have DL := Lib.hid (show (List.drop 0 ([] : List Pr)).length = 0 from rfl)
    obtain ⟨H1, hH1⟩ : ∃ H : Nat, hi (List.take 0 ([] : List Pr)) = H := ⟨_, rfl⟩
    obtain ⟨H2, hH2⟩ : ∃ H : Nat, hi (List.drop 0 ([] : List Pr)) = H := ⟨_, rfl⟩
    have b1 := hi_le _ (List.take 0 ([] : List Pr)) (Nat.le_refl _)
    have b2 := hi_le _ (List.drop 0 ([] : List Pr)) (Nat.le_refl _)
    rw [hH1, PT.out.1] at b1
    rw [hH2] at b2
    simp at b2
    have hnil : ([] : List Pr).length = 0 := rfl
    have HH1 := Lib.hid hH1
    have HH2 := Lib.hid hH2
    have TD := Lib.hid (List.take_append_drop 0 ([] : List Pr))
    have ST := Lib.hid (show Srt (List.take 0 ([] : List Pr) ++ List.drop 0 ([] : List Pr)) by rw [TD.out]; exact HS.out)
    obtain rfl : H1 = 0 := by omega
    obtain rfl : H2 = 0 := by omega
    clear hH1 hH2
    have hw0 : IntKind.i64.wrap 0 = 0 := by decide
    go_wp2_with (fail)
    refine (laid_is PT.out.2 h1 Good.nil (by rw [PT.out.1]; simp) (by rw [PT.out.1]; omega) PT.out.1).mono ?_
    rintro e W4 ⟨x, L1, rfl, h4, n4, t4, g4⟩
    rw [List.nil_append] at h4 t4 g4
    have N4 := Lib.hid (n4.trans PT.out.1)
    have T4 := Lib.hid t4
    have G4 := Lib.hid g4
    clear n4 t4 g4 h1
    go_wp2_with (fail)
    refine (laid_is PD.out h4 G4.out (by rw [DL.out, N4.out]; omega) (by rw [DL.out]; omega) DL.out).mono ?_
    rintro e W5 ⟨y, L2, rfl, h5, n5, t5, g5⟩
    have T5 := Lib.hid t5
    have TX := Lib.hid (T4.out.app L2)
    have N5 := Lib.hid (show (L1 ++ L2).length = 0 by rw [List.length_append, n5, N4.out, DL.out])
    clear n5 t5 g5 h4
    generalize L1 ++ L2 = LL at h5 TX T5 N5
    go_wp2_with (go_at_call 23; ((with_reducible refine (used_held h5 (0 : Int) (by simp [N5.out])).mono ?_); rintro e W6 ⟨rfl, hww⟩; subst hww))
    refine (two_ok h5 TX.out T5.out (by rw [PT.out.1, DL.out]; omega) ST.out (by rw [N5.out, HH1.out, HH2.out]; decide)).mono ?_
    rintro e W6 ⟨t, M, rfl, h6, hM, hT⟩
    rw [HH1.out, HH2.out] at hM
    rw [TD.out] at hT
    have TX2 := Lib.hid (TX.out.app M)
    have TY2 := Lib.hid (T5.out.app M)
    have TT := Lib.hid hT
    have NU := Lib.hid (show (0 : Int) = ((LL ++ M).length : Nat) by rw [List.length_append, N5.out]; omega)
    clear hM hT h5
    generalize LL ++ M = LM at h6 TX2 TY2 TT NU
    go_wp2_with (fail)
    go_region_held3 (fun W => Held W2 W p 400 0 LM)
      (first | exact Held.drewN (by assumption) 1 | exact Held.below (by assumption) hb | go_keep)
      (first
        | (go_at_call 18; ((with_reducible refine (says_is TT.out (HP.out.below (Held.b (by assumption))) (Held.a (by assumption)) (by simp) (show ([] : List Pr).length = 0 from rfl)).mono ?_); rintro e w7 ⟨rfl, hb⟩))
        | (go_at_call 18; ((with_reducible refine (says_is TX2.out (PT.out.2.below (Held.b (by assumption))) (Held.a (by assumption)) (by rw [PT.out.1]; omega) PT.out.1).mono ?_); rintro e w7 ⟨rfl, hb⟩))
        | (go_at_call 18; ((with_reducible refine (says_is TY2.out (PD.out.below (Held.b (by assumption))) (Held.a (by assumption)) (by rw [DL.out]; omega) DL.out).mono ?_); rintro e w7 ⟨rfl, hb⟩))
        | (go_at_call 23; ((with_reducible refine (used_held (by assumption) 0 NU.out).mono ?_); rintro e w7 ⟨rfl, rfl⟩))
        | (go_at_call 19; ((with_reducible refine (high_is (h := (0 : Int)) (PT.out.2.below (Held.b (by assumption))) (by rw [PT.out.1]; omega) PT.out.1 (by simpa using HH1.out)).mono ?_); rintro e w7 ⟨rfl, hb⟩))
        | (go_at_call 19; ((with_reducible refine (high_is (h := (0 : Int)) (PD.out.below (Held.b (by assumption))) (by rw [DL.out]; omega) DL.out (by simpa using HH2.out)).mono ?_); rintro e w7 ⟨rfl, hb⟩)))
    have h7 := held_id (w0 := W2) (p := p) (room := 400) (st := 0) (l := LM) (by assumption)
    clear h6
    go_wp2_with (fail)
    refine (two_back h7.a TX2.out TY2.out (by rw [PT.out.1]; omega) (by rw [DL.out]; omega) ST.out).mono ?_
    rintro e W9 ⟨z1, f1, rfl, hb9, hf1⟩
    have h9 := h7.below hb9
    rw [PT.out.1, DL.out] at hf1
    obtain rfl : f1 = 0 := by omega
    clear hb9 h7 hf1
    go_wp2_with (fail)
    refine (two_self h9.a TT.out (by simp) HS.out).mono ?_
    rintro e W10 ⟨z2, f2, rfl, hb10, hf2⟩
    have h10 := h9.below hb10
    obtain rfl : f2 = 0 := hf2.elim (fun h => absurd h.2 (by simp)) (fun h => h.1)
    clear hb10 h9 hf2
    go_wp2_with (fail)
    refine (two_nil x y W10).mono ?_
    rintro e W11 ⟨rfl, hb11⟩
    have h11 := h10.below hb11
    clear hb11 h10
    go_wp2_with (go_at_call 25; ((with_reducible refine (jawake_any W11).mono ?_); rintro e W14 ⟨rfl, hb14⟩; have h14 := h11.below hb14; clear hb14 h11))
    go_ret
    exact ⟨rfl, HBW.out.trans (h14.b.mono HBW.out.size)⟩
  · by_cases hcn : c = nk
    · subst hcn
      have PT := Lib.hid (prs_take HP.out (c) (by omega))
      obtain ⟨aD, hdl, hPD, hDc⟩ := prs_drop HP.out c (by omega)
      obtain ⟨_, rfl⟩ := hDc.resolve_right (fun h => h.1 rfl)
      rw [Nat.sub_self] at hPD
      have PD := Lib.hid hPD
      have DL := Lib.hid (hdl.trans (show l.length - c = 0 by omega))
      clear hPD hDc hdl
      obtain ⟨H1, hH1⟩ : ∃ H : Nat, hi (l.take (c)) = H := ⟨_, rfl⟩
      obtain ⟨H2, hH2⟩ : ∃ H : Nat, hi (l.drop (c)) = H := ⟨_, rfl⟩
      have b1 := hi_le _ (l.take (c)) (Nat.le_refl _)
      have b2 := hi_le _ (l.drop (c)) (Nat.le_refl _)
      rw [hH1, PT.out.1] at b1
      rw [hH2, List.length_drop] at b2
      have HH1 := Lib.hid hH1
      have HH2 := Lib.hid hH2
      have TD := Lib.hid (List.take_append_drop (c) l)
      have ST := Lib.hid (show Srt (l.take (c) ++ l.drop (c)) by rw [TD.out]; exact HS.out)
      clear hH1 hH2
      have hsum : IntKind.i64.wrap ((H1 : Int) + (H2 : Int)) = (H1 : Int) + (H2 : Int) := by rw [IntKind.wrap_i64]; omega
      go_wp2_with (fail)
      refine (laid_is PT.out.2 h1 Good.nil (by rw [PT.out.1]; simp; omega) (by rw [PT.out.1]; omega) PT.out.1).mono ?_
      rintro e W4 ⟨x, L1, rfl, h4, n4, t4, g4⟩
      rw [List.nil_append] at h4 t4 g4
      have N4 := Lib.hid (n4.trans PT.out.1)
      have T4 := Lib.hid t4
      have G4 := Lib.hid g4
      clear n4 t4 g4 h1
      go_wp2_with (fail)
      refine (laid_is PD.out h4 G4.out (by rw [DL.out, N4.out]; omega) (by rw [DL.out]; omega) DL.out).mono ?_
      rintro e W5 ⟨y, L2, rfl, h5, n5, t5, g5⟩
      have T5 := Lib.hid t5
      have TX := Lib.hid (T4.out.app L2)
      have N5 := Lib.hid (show (L1 ++ L2).length = l.length by rw [List.length_append, n5, N4.out, DL.out]; omega)
      clear n5 t5 g5 h4
      generalize L1 ++ L2 = LL at h5 TX T5 N5
      go_wp2_with (go_at_call 23; ((with_reducible refine (used_held h5 (l.length : Int) (by rw [N5.out])).mono ?_); rintro e W6 ⟨rfl, hww⟩; subst hww))
      refine (two_ok h5 TX.out T5.out (by rw [PT.out.1, DL.out]; omega) ST.out (by rw [N5.out, HH1.out, HH2.out]; omega)).mono ?_
      rintro e W6 ⟨t, M, rfl, h6, hM, hT⟩
      rw [HH1.out, HH2.out] at hM
      rw [TD.out] at hT
      have TX2 := Lib.hid (TX.out.app M)
      have TY2 := Lib.hid (T5.out.app M)
      have TT := Lib.hid hT
      obtain ⟨nu, hnu⟩ : ∃ nu : Int, nu = ((LL ++ M).length : Nat) := ⟨_, rfl⟩
      have hnu0 : (l.length : Int) ≤ nu := by rw [hnu, List.length_append, N5.out]; omega
      have hnu1 : nu ≤ 200 := by rw [hnu, List.length_append, N5.out]; omega
      have hnd : decide ((H1 : Int) + (H2 : Int) < nu - (l.length : Int)) = false := by rw [decide_eq_false_iff_not, hnu, List.length_append, N5.out]; omega
      have hsub : IntKind.i64.wrap (nu - (l.length : Int)) = nu - (l.length : Int) := by rw [IntKind.wrap_i64]; omega
      have NU := Lib.hid hnu
      clear hM hT h5 hnu
      generalize LL ++ M = LM at h6 TX2 TY2 TT NU
      go_wp2_with (fail)
      go_region_held3 (fun W => Held W2 W p 400 0 LM)
        (first | exact Held.drewN (by assumption) 1 | exact Held.below (by assumption) hb | go_keep)
        (first
          | (go_at_call 18; ((with_reducible refine (says_is TT.out (HP.out.below (Held.b (by assumption))) (Held.a (by assumption)) (by omega) rfl).mono ?_); rintro e w7 ⟨rfl, hb⟩))
          | (go_at_call 18; ((with_reducible refine (says_is TX2.out (PT.out.2.below (Held.b (by assumption))) (Held.a (by assumption)) (by rw [PT.out.1]; omega) PT.out.1).mono ?_); rintro e w7 ⟨rfl, hb⟩))
          | (go_at_call 18; ((with_reducible refine (says_is TY2.out (PD.out.below (Held.b (by assumption))) (Held.a (by assumption)) (by rw [DL.out]; omega) DL.out).mono ?_); rintro e w7 ⟨rfl, hb⟩))
          | (go_at_call 23; ((with_reducible refine (used_held (by assumption) nu NU.out).mono ?_); rintro e w7 ⟨rfl, rfl⟩))
          | (go_at_call 19; ((with_reducible refine (high_is (h := (H1 : Int)) (PT.out.2.below (Held.b (by assumption))) (by rw [PT.out.1]; omega) PT.out.1 (by rw [HH1.out])).mono ?_); rintro e w7 ⟨rfl, hb⟩))
          | (go_at_call 19; ((with_reducible refine (high_is (h := (H2 : Int)) (PD.out.below (Held.b (by assumption))) (by rw [DL.out]; omega) DL.out (by rw [HH2.out])).mono ?_); rintro e w7 ⟨rfl, hb⟩)))
      have h7 := held_id (w0 := W2) (p := p) (room := 400) (st := 0) (l := LM) (by assumption)
      clear h6
      go_wp2_with (fail)
      refine (two_back h7.a TX2.out TY2.out (by rw [PT.out.1]; omega) (by rw [DL.out]; omega) ST.out).mono ?_
      rintro e W9 ⟨z1, f1, rfl, hb9, hf1⟩
      have h9 := h7.below hb9
      rw [PT.out.1, DL.out] at hf1
      have hk : (f1 = 1 ∧ 0 < (c) ∧ (c) < l.length) ∨ (f1 = 0 ∧ ¬ 0 < (c)) ∨ (f1 = 0 ∧ 0 < (c) ∧ ¬ (c) < l.length) := by
        rcases hf1 with ⟨e, e1, e2⟩ | ⟨e, e1⟩
        · exact .inl ⟨e, by omega, by omega⟩
        · rcases Nat.eq_zero_or_pos (c) with h0 | h0
          · exact .inr (.inl ⟨e, by omega⟩)
          · exact .inr (.inr ⟨e, by omega, by omega⟩)
      have HK := Lib.hid hk
      clear hb9 h7 hf1 hk
      go_wp2_with (fail)
      refine (two_self h9.a TT.out (by omega) HS.out).mono ?_
      rintro e W10 ⟨z2, f2, rfl, hb10, hf2⟩
      have h10 := h9.below hb10
      have hg : (f2 = 1 ∧ 0 < l.length) ∨ (f2 = 0 ∧ ¬ 0 < l.length) := hf2.imp id (fun h => ⟨h.1, by omega⟩)
      have HGG := Lib.hid hg
      clear hb10 h9 hf2 hg
      go_wp2_with (fail)
      refine (two_nil x y W10).mono ?_
      rintro e W11 ⟨rfl, hb11⟩
      have h11 := h10.below hb11
      clear hb11 h10
      rcases HK.out with ⟨rfl, k1, k2⟩ | ⟨rfl, k1⟩ | ⟨rfl, k1, k2⟩ <;> rcases HGG.out with ⟨rfl, g1⟩ | ⟨rfl, g1⟩
      all_goals first
        | (exfalso; omega)
        | (have hlast : True := trivial
           go_wp2_with (go_at_call 25; ((with_reducible refine (jawake_any W11).mono ?_); rintro e W14 ⟨rfl, hb14⟩; have h14 := h11.below hb14; clear hb14 h11))
           go_ret
           exact ⟨rfl, HBW.out.trans (h14.b.mono HBW.out.size)⟩)
    · have PT := Lib.hid (prs_take HP.out (nk) (by omega))
      obtain ⟨aD, hdl, hPD, hDc⟩ := prs_drop HP.out nk (by omega)
      obtain ⟨_, rfl⟩ := hDc.resolve_left (fun h => hcn h.1)
      have PD := Lib.hid hPD
      have DL := Lib.hid hdl
      clear hPD hDc hdl
      obtain ⟨H1, hH1⟩ : ∃ H : Nat, hi (l.take (nk)) = H := ⟨_, rfl⟩
      obtain ⟨H2, hH2⟩ : ∃ H : Nat, hi (l.drop (nk)) = H := ⟨_, rfl⟩
      have b1 := hi_le _ (l.take (nk)) (Nat.le_refl _)
      have b2 := hi_le _ (l.drop (nk)) (Nat.le_refl _)
      rw [hH1, PT.out.1] at b1
      rw [hH2, List.length_drop] at b2
      have HH1 := Lib.hid hH1
      have HH2 := Lib.hid hH2
      have TD := Lib.hid (List.take_append_drop (nk) l)
      have ST := Lib.hid (show Srt (l.take (nk) ++ l.drop (nk)) by rw [TD.out]; exact HS.out)
      clear hH1 hH2
      have hsum : IntKind.i64.wrap ((H1 : Int) + (H2 : Int)) = (H1 : Int) + (H2 : Int) := by rw [IntKind.wrap_i64]; omega
      go_wp2_with (fail)
      refine (laid_is PT.out.2 h1 Good.nil (by rw [PT.out.1]; simp; omega) (by rw [PT.out.1]; omega) PT.out.1).mono ?_
      rintro e W4 ⟨x, L1, rfl, h4, n4, t4, g4⟩
      rw [List.nil_append] at h4 t4 g4
      have N4 := Lib.hid (n4.trans PT.out.1)
      have T4 := Lib.hid t4
      have G4 := Lib.hid g4
      clear n4 t4 g4 h1
      go_wp2_with (fail)
      refine (laid_is PD.out h4 G4.out (by rw [DL.out, N4.out]; omega) (by rw [DL.out]; omega) DL.out).mono ?_
      rintro e W5 ⟨y, L2, rfl, h5, n5, t5, g5⟩
      have T5 := Lib.hid t5
      have TX := Lib.hid (T4.out.app L2)
      have N5 := Lib.hid (show (L1 ++ L2).length = l.length by rw [List.length_append, n5, N4.out, DL.out]; omega)
      clear n5 t5 g5 h4
      generalize L1 ++ L2 = LL at h5 TX T5 N5
      go_wp2_with (go_at_call 23; ((with_reducible refine (used_held h5 (l.length : Int) (by rw [N5.out])).mono ?_); rintro e W6 ⟨rfl, hww⟩; subst hww))
      refine (two_ok h5 TX.out T5.out (by rw [PT.out.1, DL.out]; omega) ST.out (by rw [N5.out, HH1.out, HH2.out]; omega)).mono ?_
      rintro e W6 ⟨t, M, rfl, h6, hM, hT⟩
      rw [HH1.out, HH2.out] at hM
      rw [TD.out] at hT
      have TX2 := Lib.hid (TX.out.app M)
      have TY2 := Lib.hid (T5.out.app M)
      have TT := Lib.hid hT
      obtain ⟨nu, hnu⟩ : ∃ nu : Int, nu = ((LL ++ M).length : Nat) := ⟨_, rfl⟩
      have hnu0 : (l.length : Int) ≤ nu := by rw [hnu, List.length_append, N5.out]; omega
      have hnu1 : nu ≤ 200 := by rw [hnu, List.length_append, N5.out]; omega
      have hnd : decide ((H1 : Int) + (H2 : Int) < nu - (l.length : Int)) = false := by rw [decide_eq_false_iff_not, hnu, List.length_append, N5.out]; omega
      have hsub : IntKind.i64.wrap (nu - (l.length : Int)) = nu - (l.length : Int) := by rw [IntKind.wrap_i64]; omega
      have NU := Lib.hid hnu
      clear hM hT h5 hnu
      generalize LL ++ M = LM at h6 TX2 TY2 TT NU
      go_wp2_with (fail)
      go_region_held3 (fun W => Held W2 W p 400 0 LM)
        (first | exact Held.drewN (by assumption) 1 | exact Held.below (by assumption) hb | go_keep)
        (first
          | (go_at_call 18; ((with_reducible refine (says_is TT.out (HP.out.below (Held.b (by assumption))) (Held.a (by assumption)) (by omega) rfl).mono ?_); rintro e w7 ⟨rfl, hb⟩))
          | (go_at_call 18; ((with_reducible refine (says_is TX2.out (PT.out.2.below (Held.b (by assumption))) (Held.a (by assumption)) (by rw [PT.out.1]; omega) PT.out.1).mono ?_); rintro e w7 ⟨rfl, hb⟩))
          | (go_at_call 18; ((with_reducible refine (says_is TY2.out (PD.out.below (Held.b (by assumption))) (Held.a (by assumption)) (by rw [DL.out]; omega) DL.out).mono ?_); rintro e w7 ⟨rfl, hb⟩))
          | (go_at_call 23; ((with_reducible refine (used_held (by assumption) nu NU.out).mono ?_); rintro e w7 ⟨rfl, rfl⟩))
          | (go_at_call 19; ((with_reducible refine (high_is (h := (H1 : Int)) (PT.out.2.below (Held.b (by assumption))) (by rw [PT.out.1]; omega) PT.out.1 (by rw [HH1.out])).mono ?_); rintro e w7 ⟨rfl, hb⟩))
          | (go_at_call 19; ((with_reducible refine (high_is (h := (H2 : Int)) (PD.out.below (Held.b (by assumption))) (by rw [DL.out]; omega) DL.out (by rw [HH2.out])).mono ?_); rintro e w7 ⟨rfl, hb⟩)))
      have h7 := held_id (w0 := W2) (p := p) (room := 400) (st := 0) (l := LM) (by assumption)
      clear h6
      go_wp2_with (fail)
      refine (two_back h7.a TX2.out TY2.out (by rw [PT.out.1]; omega) (by rw [DL.out]; omega) ST.out).mono ?_
      rintro e W9 ⟨z1, f1, rfl, hb9, hf1⟩
      have h9 := h7.below hb9
      rw [PT.out.1, DL.out] at hf1
      have hk : (f1 = 1 ∧ 0 < (nk) ∧ (nk) < l.length) ∨ (f1 = 0 ∧ ¬ 0 < (nk)) ∨ (f1 = 0 ∧ 0 < (nk) ∧ ¬ (nk) < l.length) := by
        rcases hf1 with ⟨e, e1, e2⟩ | ⟨e, e1⟩
        · exact .inl ⟨e, by omega, by omega⟩
        · rcases Nat.eq_zero_or_pos (nk) with h0 | h0
          · exact .inr (.inl ⟨e, by omega⟩)
          · exact .inr (.inr ⟨e, by omega, by omega⟩)
      have HK := Lib.hid hk
      clear hb9 h7 hf1 hk
      go_wp2_with (fail)
      refine (two_self h9.a TT.out (by omega) HS.out).mono ?_
      rintro e W10 ⟨z2, f2, rfl, hb10, hf2⟩
      have h10 := h9.below hb10
      have hg : (f2 = 1 ∧ 0 < l.length) ∨ (f2 = 0 ∧ ¬ 0 < l.length) := hf2.imp id (fun h => ⟨h.1, by omega⟩)
      have HGG := Lib.hid hg
      clear hb10 h9 hf2 hg
      go_wp2_with (fail)
      refine (two_nil x y W10).mono ?_
      rintro e W11 ⟨rfl, hb11⟩
      have h11 := h10.below hb11
      clear hb11 h10
      rcases HK.out with ⟨rfl, k1, k2⟩ | ⟨rfl, k1⟩ | ⟨rfl, k1, k2⟩ <;> rcases HGG.out with ⟨rfl, g1⟩ | ⟨rfl, g1⟩
      all_goals first
        | (exfalso; omega)
        | (have hlast : True := trivial
           go_wp2_with (go_at_call 25; ((with_reducible refine (jawake_any W11).mono ?_); rintro e W14 ⟨rfl, hb14⟩; have h14 := h11.below hb14; clear hb14 h11))
           go_ret
           exact ⟨rfl, HBW.out.trans (h14.b.mono HBW.out.size)⟩)

set_option maxRecDepth 100000 in
theorem lifted (os : Os) (started : os.Started) (H : Type) (enc : TypeId × Value → H) :
    ReturnsInHanded {} Try.checked os 6 .any (Rows.joinFormsSpec.pre6 enc Try.prog Try.f6 Rows.joinFormsRow.domain false) (Rows.joinFormsSpec.post enc Try.prog Try.f6 false true false false) := by
  refine returnsInHanded_of_change (C := Try.checked) own started (by kernel_rfl) Try.func6
    (ChangeSpec.witness6 (enc := enc) (C := Try.checked) false ⟨#[], #[.slice none 0 0, .int .i64 0], []⟩ 8 (by kernel_rfl) (by kernel_rfl) (by kernel_rfl) (by kernel_rfl)) ?_
  intro W base args ds gs before hval0 hW hcnd _
  have hval : ∀ (j : Nat) t v, Try.f6.params[j]? = some t → args[j]? = some v → Value.okWide Try.prog W .any base t v := hval0
  have hW' := hW
  obtain ⟨p, q, hA0, hV, rfl, hfz, hnd⟩ := hW
  have hA : DataW.TrodAll enc Try.prog W 0 (fun _ => true) true Try.f6.params.toList args.toList ds p := hA0
  rw [Try.params6] at hA hval
  obtain ⟨v0, vs0, d0, ds0, p0, q0, hargs, rfl, rfl, h0, r0⟩ := trodAll_cons hA
  obtain ⟨v1, vs1, d1, ds1, p1, q1, rfl, rfl, rfl, h1, r1⟩ := trodAll_cons r0
  obtain ⟨rfl, rfl, rfl⟩ := trodAll_nil r1
  obtain rfl : args = #[v0, v1] := by cases args; simp_all
  obtain ⟨rfl, rfl⟩ := trodVars_none hV
  have k0 := h0
  have lt0 : ∀ x ∈ p0, x.block < W.heap.size := by obtain ⟨m, hm⟩ := k0; exact DataW.trod_lt m _ _ _ hm
  obtain ⟨b0, l0, c0, rfl⟩ := okWide_slice Try.underlying22 (hval 0 22 v0 rfl rfl)
  obtain ⟨a0, cap0, z0, e0, w0, g0⟩ := open_pairsw (enc := enc) (w := W) (v := .slice b0 l0 c0) (fuel := h0.choose) (by simpa [Value.cells] using h0.choose_spec)
  rw [e0] at hval k0 h0 hW' hval0 hA0
  have k1 := h1
  have lt1 : ∀ x ∈ p1, x.block < W.heap.size := by obtain ⟨m, hm⟩ := k1; exact DataW.trod_lt m _ _ _ hm
  obtain ⟨a1, rfl, rfl, rfl, w1⟩ := open_int Try.underlying3 (hval 1 3 v1 rfl rfl) h1
  clear hA0 hval0
  rw [e0]; refine (walk a0 cap0 z0 a1 W w0 g0 w1).mono fun e W' ⟨he, bel⟩ => ?_
  subst he
  exact ⟨_, rfl, _, _, _, [], _, [], hW', trodAll_mk1 (shut_bool Try.underlying4 _), (trodAll_cons_mk (Below.trod laidOut (by kernel_rfl) (of_decide_eq_true (by kernel_rfl)) k0 bel lt0) (trodAll_cons_mk (Below.trod laidOut (by kernel_rfl) (of_decide_eq_true (by kernel_rfl)) k1 bel lt1) trodAll_mk0)), rfl, bel.frame _, fun h => by cases h⟩

theorem over : Rows.joinFormsRow.holds Try.pinned (OpenSpec.ofChange Rows.joinFormsSpec) :=
  OpenClaim.holds_of_wide 6 Try.f6 rfl rfl rfl rfl rfl rfl rfl ⟨rfl, rfl, rfl, rfl, rfl⟩ rfl rfl rfl rfl rfl (by kernel_rfl) Try.func6 (by kernel_rfl)
    (of_decide_eq_true (by kernel_rfl)) (by unfold Func.isWrapper; first | (rw [if_pos (by decide +kernel)]; kernel_rfl) | (rw [if_neg (by decide +kernel)]; exact ⟨rfl, rfl⟩))
    (fun os started H enc _ => lifted os started H enc)

theorem joinFormsHolds : Rows.JoinFormsSaid := over
#print axioms joinFormsHolds
end Go.Proofs.Ytellkcppgfghhaa.joinForms
