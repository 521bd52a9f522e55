/- 'osierlaw10.SoundAlways' returns true for every slice of pairs and every slice of operations. No condition. -/
import Derived.Test.YtbmlpdkbiipcmaaRows
import Derived.Test.YtbmlpdkbiipcmaaSoL
import Derived.Test.YtbmlpdkbiipcmaaSoD
import Derived.Deep.LoopGhost
import Derived.LoopTactic
import Derived.WalkKit
import Derived.ProofKit
import Derived.OpenShut
import Derived.ChangeOld
import Derived.Below
namespace Go.Proofs.Ytbmlpdkbiipcmaa.soundAlways
open Go.ChangeShapes Go.WideShapes Go.ChangeAt Go.RowKit
set_option linter.all false

theorem own : ownKnob Try.prog.godebug = none := by kernel_rfl
theorem laidOut : laidOutB Try.prog = true := by kernel_rfl

theorem pairs_b (a : Option Addr) (cap : Nat) (l : List Pr) (w : World) (h : Prs w a cap l) :
    Calls Try.prog 7 #[.slice a l.length cap, .int .i64 30] w fun e w' =>
      ∃ ao cp m, e = .returned (.slice ao (m : List Pr).length cp) ∧ m.length ≤ 30 ∧ Srt m ∧ Prs w' ao cp m ∧ (∀ b o, ao = some ⟨b, o, none⟩ → b < w'.heap.size) ∧ Below w.heap.size w w' := by
  refine (pairs_form a cap l 30 w h (by omega)).mono ?_
  rintro e w' ⟨⟨ao, cp, he, hp, hF, hb⟩, hn⟩
  refine ⟨ao, cp, _, he, hn, pairsL_srt l 30, hp, ?_, hb⟩
  rintro b o rfl
  cases hc : pairsL l 30 with
  | nil => have := (hF hc).1; cases this
  | cons q L =>
    rw [hc] at hp
    obtain ⟨b', o', e', h0, _⟩ := hp.2.2 0 q rfl
    cases e'
    exact World.block_lt_of_cell? _ _ h0

set_option maxRecDepth 100000 in
set_option maxHeartbeats 25600000 in
theorem walk (a0 : Option Addr) (cap0 : Nat) (z0 : List Pr) (a1 : Option Addr) (len1 cap1 : Nat) (z1 : List DoD) (w : World) (w0 : Prs w a0 cap0 z0) (r0 : Rng z0) (w1 : ArgDos w a1 len1 z1) :
    Calls Try.prog 5 #[.slice a0 z0.length cap0, .slice a1 len1 cap1] w fun e w' => e = .returned (.bool true) ∧ Below w.heap.size w w' := by
  have hc0 := w0.1
  have hc1 := w0.2.1
  have hd1 := w1.2.1
  have WD := Lib.hid w1
  unfold maxLen at hc1 hd1
  by_cases h40 : 40 < len1
  · have h40' : (40 : Int) < (len1 : Int) := by omega
    clear w0 r0 w1
    go_enter Try.func5, Try.ntmps5
    go_wp2_with (go_at_call 13; ((with_reducible refine (sawake_any _).mono ?_); rintro e W3 ⟨rfl, hb3⟩))
    go_ret
    exact ⟨rfl, hb3⟩
  have h40' : ¬ (40 : Int) < (len1 : Int) := by omega
  have cp := pairs_b a0 cap0 z0 w w0
  clear w0 r0 w1
  go_enter Try.func5, Try.ntmps5
  go_wp2_with (first
    | (go_at_call 7; ((with_reducible refine cp.mono ?_); clear cp; rintro e W2 ⟨ao, c, l, rfl, hl, hs, hP, hblk, hbw⟩; have hP1 := hP.1; have hP2 := hP.2.1; have HP := Lib.hid hP; have HS := Lib.hid hs; have HBK := Lib.hid hblk; have HBW := Lib.hid hbw; clear hP hs hblk hbw; unfold maxLen at hP2))
    | (go_at_call 8; ((with_reducible refine (new_held 20000 20000 W2 _ (Below.refl _ _) (by decide)).mono ?_); rintro e W3 ⟨p, rfl, h1⟩))
    | (go_at_call 9; ((with_reducible refine (laid_any W2 p _ _ _ ao c l _ [] (Nat.le_refl _) HP.out h1 Good.nil (by simp; omega) (by omega)).mono ?_); rintro e W4 ⟨t0, L0, rfl, h4, n4, t4, g4⟩; rw [List.nil_append] at h4 t4; have T4 := Lib.hid t4; have N4 := Lib.hid n4; clear t4 g4 h1 n4)))
  have A4 : AS (fun k => W2.heap.size ≤ k) W2 W4 p L0 ao c l := ⟨h4.a, fun j hj => hj, fun b o e => ⟨Nat.not_le_of_lt (HBK.out b o e), Nat.lt_of_lt_of_le (HBK.out b o e) h4.b.size⟩, HP.out.below h4.b, h4.b⟩
  have HA4 := Lib.hid A4
  clear A4 h4
  go_loopw [5, 7, 33] (fun mv tv i wr => ∃ (n : Nat) (t : Int) (L : List It) (am : Option Addr) (cm : Nat) (m : List Pr) (G : Nat → Prop), n ≤ len1 ∧ tv = .int .i64 t ∧ i = .int .i64 n ∧ mv = .slice am m.length cm ∧ AS G W2 wr p L am cm m ∧ Tree L t m ∧ Srt m ∧ m.length ≤ 30 + n ∧ L.length ≤ 30 + n * 300) (fun _ _ i _ => len1 - (intOf i).toNat)
  case atStart => exact ⟨0, t0, L0, ao, c, l, _, Nat.zero_le _, rfl, rfl, rfl, HA4.out, T4.out, HS.out, by omega, by have := N4.out; omega⟩
  case round =>
    obtain ⟨n, t, L, am, cm, m, G, hn, rfl, rfl, rfl, hA, hT, hms, hml, hLl⟩ := hrel
    by_cases hlt : n < len1
    · have hzl := WD.out.1
      obtain ⟨dd, hdd⟩ : ∃ q, z1[n]? = some q := ⟨_, List.getElem?_eq_getElem (by omega)⟩
      obtain ⟨b, o, rfl, hda⟩ := WD.out.2.2 n dd hdd
      obtain ⟨x0, x1, x2⟩ := hda.below (HBW.out.trans (hA.b.mono HBW.out.size))
      obtain ⟨d, k, v⟩ := dd
      dsimp only at x0 x1 x2
      have hm100 : m.length ≤ 100 := by omega
      have hL19 : L.length ≤ 19000 := by omega
      have HD := AD.begin hA d k v 48
      have y0 := HD.d0
      have y1 := HD.d1
      have y2 := HD.d2
      have H0 := Lib.hid HD
      have HT := Lib.hid hT
      have HMS := Lib.hid hms
      have HLEN := Lib.hid (And.intro hml (And.intro hLl (And.intro hm100 hL19)))
      have hn0 : (0 : Int) ≤ (n : Int) := by omega
      have hnl : (n : Int) < (len1 : Int) := by omega
      clear hA HD hT hms hda hdd hzl hml hLl hm100 hL19 HA4 T4 N4 HP HS HBK
      by_cases hd0 : d = 0
      · subst hd0
        have SW := Lib.hid (withL_is_srt m k v HMS.out)
        have LW := Lib.hid (withL_len m k v HMS.out)
        go_wp2_with (first
          | (go_at_call 20; ((with_reducible refine (put_ad H0.out HT.out HMS.out HLEN.out.2.2.1 HLEN.out.2.2.2).mono ?_); rintro e w5 ⟨n5, old, there, L5, G5, rfl, hd5, hL5, hT5⟩; have H5 := Lib.hid hd5; clear y0 y1 y2; have y0 := hd5.d0; have y1 := hd5.d1; have y2 := hd5.d2; clear hd5; have T5 := Lib.hid hT5; have L5h := Lib.hid hL5; clear hT5 hL5))
          | (go_at_call 21; ((with_reducible refine (with_ad H5.out HLEN.out.2.2.1).mono ?_); rintro e w6 ⟨am6, cm6, G6, rfl, hd6⟩; have H6 := Lib.hid hd6; clear y0 y1 y2; have y0 := hd6.d0; have y1 := hd6.d1; have y2 := hd6.d2; clear hd6))
          | (go_at_call 10; ((with_reducible refine (may_ad H6.out T5.out SW.out (by have := LW.out; have := HLEN.out; omega)).mono ?_); rintro e w7 ⟨rfl, hd7⟩; have H7 := Lib.hid hd7; clear y0 y1 y2; have y0 := hd7.d0; have y1 := hd7.d1; have y2 := hd7.d2; clear hd7))
          | (go_at_call 29; ((with_reducible refine (says_ad H7.out T5.out (by have := LW.out; have := HLEN.out; omega)).mono ?_); rintro e w8 ⟨rfl, hd8⟩; have H8 := Lib.hid hd8; clear y0 y1 y2; have y0 := hd8.d0; have y1 := hd8.d1; have y2 := hd8.d2; clear hd8)))
        go_roundw
        case rel => exact ⟨n + 1, n5, L5, _, _, withL m k v, _, by omega, rfl, by go_num, rfl, H8.out.toAS, T5.out, SW.out, by have := LW.out; have := HLEN.out; omega, by have := L5h.out; have := HLEN.out; omega⟩
        case measure => simp [intOf]; omega
      have e0 : (d == 0) = false := by simp [hd0]
      by_cases hd1' : d = 1
      · subst hd1'
        cases hf : findL m k with
        | none =>
          have HF := Lib.hid hf
          clear hf
          have SW := Lib.hid (withL_is_srt m k v HMS.out)
          have LW := Lib.hid (withL_len m k v HMS.out)
          go_wp2_with (first
            | (go_at_call 22; ((with_reducible refine (add_ad_no H0.out HT.out HMS.out HLEN.out.2.2.1 HLEN.out.2.2.2 HF.out).mono ?_); rintro e w5 ⟨n5, old, there, L5, G5, rfl, hd5, hL5, hT5⟩; have H5 := Lib.hid hd5; clear y0 y1 y2; have y0 := hd5.d0; have y1 := hd5.d1; have y2 := hd5.d2; clear hd5; have T5 := Lib.hid hT5; have L5h := Lib.hid hL5; clear hT5 hL5))
            | (go_at_call 23; ((with_reducible refine (find_ad H5.out).mono ?_); rintro e w9 ⟨j, rfl, hj, hd9⟩; have H9 := Lib.hid hd9; clear y0 y1 y2; have y0 := hd9.d0; have y1 := hd9.d1; have y2 := hd9.d2; clear hd9; have hjn : j < 0 := hj.2 HF.out; have hjd : decide (j < 0) = true := decide_eq_true hjn; clear hj))
            | (go_at_call 21; ((with_reducible refine (with_ad H9.out HLEN.out.2.2.1).mono ?_); rintro e w6 ⟨am6, cm6, G6, rfl, hd6⟩; have H6 := Lib.hid hd6; clear y0 y1 y2; have y0 := hd6.d0; have y1 := hd6.d1; have y2 := hd6.d2; clear hd6))
            | (go_at_call 10; ((with_reducible refine (may_ad H6.out T5.out SW.out (by have := LW.out; have := HLEN.out; omega)).mono ?_); rintro e w7 ⟨rfl, hd7⟩; have H7 := Lib.hid hd7; clear y0 y1 y2; have y0 := hd7.d0; have y1 := hd7.d1; have y2 := hd7.d2; clear hd7))
            | (go_at_call 29; ((with_reducible refine (says_ad H7.out T5.out (by have := LW.out; have := HLEN.out; omega)).mono ?_); rintro e w8 ⟨rfl, hd8⟩; have H8 := Lib.hid hd8; clear y0 y1 y2; have y0 := hd8.d0; have y1 := hd8.d1; have y2 := hd8.d2; clear hd8)))
          go_roundw
          case rel => exact ⟨n + 1, n5, L5, _, _, withL m k v, _, by omega, rfl, by go_num, rfl, H8.out.toAS, T5.out, SW.out, by have := LW.out; have := HLEN.out; omega, by have := L5h.out; have := HLEN.out; omega⟩
          case measure => simp [intOf]; omega
        | some q =>
          have HF := Lib.hid hf
          clear hf
          go_wp2_with (first
            | (go_at_call 22; ((with_reducible refine (add_ad_yes H0.out HT.out HMS.out HF.out).mono ?_); rintro e w5 ⟨rfl, hd5⟩; have H5 := Lib.hid hd5; clear y0 y1 y2; have y0 := hd5.d0; have y1 := hd5.d1; have y2 := hd5.d2; clear hd5))
            | (go_at_call 23; ((with_reducible refine (find_ad H5.out).mono ?_); rintro e w6 ⟨j, rfl, hj, hd6⟩; have H6 := Lib.hid hd6; clear y0 y1 y2; have y0 := hd6.d0; have y1 := hd6.d1; have y2 := hd6.d2; clear hd6; have hjn : ¬ j < 0 := (fun hh => by have := hj.1 hh; rw [HF.out] at this; cases this); have hjd : decide (j < 0) = false := decide_eq_false hjn; clear hj))
            | (go_at_call 10; ((with_reducible refine (may_ad H6.out HT.out HMS.out HLEN.out.2.2.1).mono ?_); rintro e w7 ⟨rfl, hd7⟩; have H7 := Lib.hid hd7; clear y0 y1 y2; have y0 := hd7.d0; have y1 := hd7.d1; have y2 := hd7.d2; clear hd7))
            | (go_at_call 29; ((with_reducible refine (says_ad H7.out HT.out HLEN.out.2.2.1).mono ?_); rintro e w8 ⟨rfl, hd8⟩; have H8 := Lib.hid hd8; clear y0 y1 y2; have y0 := hd8.d0; have y1 := hd8.d1; have y2 := hd8.d2; clear hd8)))
          go_roundw
          case rel => exact ⟨n + 1, t, L, _, _, m, _, by omega, rfl, by go_num, rfl, H8.out.toAS, HT.out, HMS.out, by have := HLEN.out; omega, by have := HLEN.out; omega⟩
          case measure => simp [intOf]; omega
      have e1 : (d == 1) = false := by simp [hd1']
      by_cases hd2 : d = 2
      · subst hd2
        cases hf : findL m k with
        | none =>
          have HF := Lib.hid hf
          clear hf
          have SC := Lib.hid (cutL_srt HMS.out k)
          have LC := Lib.hid (cutL_len m k)
          have TC : Hid (Tree L t (cutL m k)) := Lib.hid (by rw [cutL_none (by rw [HF.out]; rfl)]; exact HT.out)
          go_wp2_with (first
            | (go_at_call 24; ((with_reducible refine (cut_ad_no H0.out HT.out HMS.out HLEN.out.2.2.1 HF.out).mono ?_); rintro e w5 ⟨rfl, hd5⟩; have H5 := Lib.hid hd5; clear y0 y1 y2; have y0 := hd5.d0; have y1 := hd5.d1; have y2 := hd5.d2; clear hd5))
            | (go_at_call 25; ((with_reducible refine (without_ad H5.out HLEN.out.2.2.1).mono ?_); rintro e w6 ⟨am6, cm6, G6, rfl, hd6⟩; have H6 := Lib.hid hd6; clear y0 y1 y2; have y0 := hd6.d0; have y1 := hd6.d1; have y2 := hd6.d2; clear hd6))
            | (go_at_call 10; ((with_reducible refine (may_ad H6.out TC.out SC.out (by have := LC.out; have := HLEN.out; omega)).mono ?_); rintro e w7 ⟨rfl, hd7⟩; have H7 := Lib.hid hd7; clear y0 y1 y2; have y0 := hd7.d0; have y1 := hd7.d1; have y2 := hd7.d2; clear hd7))
            | (go_at_call 29; ((with_reducible refine (says_ad H7.out TC.out (by have := LC.out; have := HLEN.out; omega)).mono ?_); rintro e w8 ⟨rfl, hd8⟩; have H8 := Lib.hid hd8; clear y0 y1 y2; have y0 := hd8.d0; have y1 := hd8.d1; have y2 := hd8.d2; clear hd8)))
          go_roundw
          case rel => exact ⟨n + 1, t, L, _, _, cutL m k, _, by omega, rfl, by go_num, rfl, H8.out.toAS, TC.out, SC.out, by have := LC.out; have := HLEN.out; omega, by have := HLEN.out; omega⟩
          case measure => simp [intOf]; omega
        | some q =>
          have HF := Lib.hid hf
          clear hf
          have SC := Lib.hid (cutL_srt HMS.out k)
          have LC := Lib.hid (cutL_len m k)
          go_wp2_with (first
            | (go_at_call 24; ((with_reducible refine (cut_ad_yes H0.out HT.out HMS.out HLEN.out.2.2.1 HLEN.out.2.2.2 HF.out).mono ?_); rintro e w5 ⟨n5, L5, G5, rfl, hd5, hL5, hT5⟩; have H5 := Lib.hid hd5; clear y0 y1 y2; have y0 := hd5.d0; have y1 := hd5.d1; have y2 := hd5.d2; clear hd5; have T5 := Lib.hid hT5; have L5h := Lib.hid hL5; clear hT5 hL5))
            | (go_at_call 25; ((with_reducible refine (without_ad H5.out HLEN.out.2.2.1).mono ?_); rintro e w6 ⟨am6, cm6, G6, rfl, hd6⟩; have H6 := Lib.hid hd6; clear y0 y1 y2; have y0 := hd6.d0; have y1 := hd6.d1; have y2 := hd6.d2; clear hd6))
            | (go_at_call 10; ((with_reducible refine (may_ad H6.out T5.out SC.out (by have := LC.out; have := HLEN.out; omega)).mono ?_); rintro e w7 ⟨rfl, hd7⟩; have H7 := Lib.hid hd7; clear y0 y1 y2; have y0 := hd7.d0; have y1 := hd7.d1; have y2 := hd7.d2; clear hd7))
            | (go_at_call 29; ((with_reducible refine (says_ad H7.out T5.out (by have := LC.out; have := HLEN.out; omega)).mono ?_); rintro e w8 ⟨rfl, hd8⟩; have H8 := Lib.hid hd8; clear y0 y1 y2; have y0 := hd8.d0; have y1 := hd8.d1; have y2 := hd8.d2; clear hd8)))
          go_roundw
          case rel => exact ⟨n + 1, n5, L5, _, _, cutL m k, _, by omega, rfl, by go_num, rfl, H8.out.toAS, T5.out, SC.out, by have := LC.out; have := HLEN.out; omega, by have := L5h.out; have := HLEN.out; omega⟩
          case measure => simp [intOf]; omega
      have e2 : (d == 2) = false := by simp [hd2]
      by_cases hd3 : d = 3
      · subst hd3
        go_wp2_with (first
          | (go_at_call 26; ((with_reducible refine (part_ad H0.out HT.out HMS.out HLEN.out.2.2.1 HLEN.out.2.2.2).mono ?_); rintro e w5 ⟨x, y, L5, G5, A, B, rfl, hd5, hL5, hTA, hTB, hAB⟩; have H5 := Lib.hid hd5; clear y0 y1 y2; have y0 := hd5.d0; have y1 := hd5.d1; have y2 := hd5.d2; clear hd5; have TA := Lib.hid hTA; have TB := Lib.hid hTB; have AB := Lib.hid hAB; have L5h := Lib.hid hL5; clear hTA hTB hL5 hAB))
          | (go_at_call 27; ((with_reducible refine (two_ad H5.out TA.out TB.out AB.out HMS.out HLEN.out.2.2.1 (by have := L5h.out; have := HLEN.out; omega)).mono ?_); rintro e w6 ⟨n6, L6, G6, rfl, hd6, hL6, hT6⟩; have H6 := Lib.hid hd6; clear y0 y1 y2; have y0 := hd6.d0; have y1 := hd6.d1; have y2 := hd6.d2; clear hd6; have T6 := Lib.hid hT6; have L6h := Lib.hid hL6; clear hT6 hL6))
          | (go_at_call 10; ((with_reducible refine (may_ad H6.out T6.out HMS.out HLEN.out.2.2.1).mono ?_); rintro e w7 ⟨rfl, hd7⟩; have H7 := Lib.hid hd7; clear y0 y1 y2; have y0 := hd7.d0; have y1 := hd7.d1; have y2 := hd7.d2; clear hd7))
          | (go_at_call 29; ((with_reducible refine (says_ad H7.out T6.out HLEN.out.2.2.1).mono ?_); rintro e w8 ⟨rfl, hd8⟩; have H8 := Lib.hid hd8; clear y0 y1 y2; have y0 := hd8.d0; have y1 := hd8.d1; have y2 := hd8.d2; clear hd8)))
        go_roundw
        case rel => exact ⟨n + 1, n6, L6, _, _, m, _, by omega, rfl, by go_num, rfl, H8.out.toAS, T6.out, HMS.out, by have := HLEN.out; omega, by have := L5h.out; have := L6h.out; have := HLEN.out; omega⟩
        case measure => simp [intOf]; omega
      have e3 : (d == 3) = false := by simp [hd3]
      by_cases hfew : m.length < 2
      · have HF := Lib.hid hfew
        clear hfew
        go_wp2_with (first
          | (go_at_call 28; ((with_reducible refine (half_ad_few H0.out HT.out HF.out).mono ?_); rintro e w8 ⟨rfl, hd8⟩; have H8 := Lib.hid hd8; clear y0 y1 y2; have y0 := hd8.d0; have y1 := hd8.d1; have y2 := hd8.d2; clear hd8)))
        go_roundw
        case rel => exact ⟨n + 1, t, L, _, _, m, _, by omega, rfl, by go_num, rfl, H8.out.toAS, HT.out, HMS.out, by have := HLEN.out; omega, by have := HLEN.out; omega⟩
        case measure => simp [intOf]; omega
      · have HF := Lib.hid (show 2 ≤ m.length from by omega)
        clear hfew
        go_wp2_with (first
          | (go_at_call 28; ((with_reducible refine (half_ad H0.out HT.out HMS.out HLEN.out.2.2.1 HLEN.out.2.2.2 HF.out).mono ?_); rintro e w5 ⟨kk, x, y, L5, G5, A, B, rfl, hd5, hL5, hTA, hTB, hAB⟩; have H5 := Lib.hid hd5; clear y0 y1 y2; have y0 := hd5.d0; have y1 := hd5.d1; have y2 := hd5.d2; clear hd5; have TA := Lib.hid hTA; have TB := Lib.hid hTB; have AB := Lib.hid hAB; have L5h := Lib.hid hL5; clear hTA hTB hL5 hAB))
          | (go_at_call 27; ((with_reducible refine (two_ad H5.out TA.out TB.out AB.out HMS.out HLEN.out.2.2.1 (by have := L5h.out; have := HLEN.out; omega)).mono ?_); rintro e w6 ⟨n6, L6, G6, rfl, hd6, hL6, hT6⟩; have H6 := Lib.hid hd6; clear y0 y1 y2; have y0 := hd6.d0; have y1 := hd6.d1; have y2 := hd6.d2; clear hd6; have T6 := Lib.hid hT6; have L6h := Lib.hid hL6; clear hT6 hL6))
          | (go_at_call 10; ((with_reducible refine (may_ad H6.out T6.out HMS.out HLEN.out.2.2.1).mono ?_); rintro e w7 ⟨rfl, hd7⟩; have H7 := Lib.hid hd7; clear y0 y1 y2; have y0 := hd7.d0; have y1 := hd7.d1; have y2 := hd7.d2; clear hd7))
          | (go_at_call 29; ((with_reducible refine (says_ad H7.out T6.out HLEN.out.2.2.1).mono ?_); rintro e w8 ⟨rfl, hd8⟩; have H8 := Lib.hid hd8; clear y0 y1 y2; have y0 := hd8.d0; have y1 := hd8.d1; have y2 := hd8.d2; clear hd8)))
        go_roundw
        case rel => exact ⟨n + 1, n6, L6, _, _, m, _, by omega, rfl, by go_num, rfl, H8.out.toAS, T6.out, HMS.out, by have := HLEN.out; omega, by have := L5h.out; have := L6h.out; have := HLEN.out; omega⟩
        case measure => simp [intOf]; omega
    · obtain rfl : n = len1 := by omega
      go_wp2_with (go_at_call 13; ((with_reducible refine (sawake_any _).mono ?_); rintro e W9 ⟨rfl, hb9⟩))
      go_ret
      exact ⟨rfl, (HBW.out.trans (hA.b.mono HBW.out.size)).trans (hb9.mono (HBW.out.trans (hA.b.mono HBW.out.size)).size)⟩

set_option maxRecDepth 100000 in
theorem lifted (os : Os) (started : os.Started) (H : Type) (enc : TypeId × Value → H) :
    ReturnsInHanded {} Try.checked os 5 .any (Rows.soundAlwaysSpec.pre6 enc Try.prog Try.f5 Rows.soundAlwaysRow.domain false) (Rows.soundAlwaysSpec.post enc Try.prog Try.f5 false true false false) := by
  refine returnsInHanded_of_change (C := Try.checked) own started (by kernel_rfl) Try.func5
    (ChangeSpec.witness6 (enc := enc) (C := Try.checked) false ⟨#[], #[.slice none 0 0, .slice none 0 0], []⟩ 8 (by kernel_rfl) (by kernel_rfl) (by kernel_rfl) (by kernel_rfl)) ?_
  intro W base args ds gs before hval0 hW hcnd _
  have hval : ∀ (j : Nat) t v, Try.f5.params[j]? = some t → args[j]? = some v → Value.okWide Try.prog W .any base t v := hval0
  have hW' := hW
  obtain ⟨p, q, hA0, hV, rfl, hfz, hnd⟩ := hW
  have hA : DataW.TrodAll enc Try.prog W 0 (fun _ => true) true Try.f5.params.toList args.toList ds p := hA0
  rw [Try.params5] at hA hval
  obtain ⟨v0, vs0, d0, ds0, p0, q0, hargs, rfl, rfl, h0, r0⟩ := trodAll_cons hA
  obtain ⟨v1, vs1, d1, ds1, p1, q1, rfl, rfl, rfl, h1, r1⟩ := trodAll_cons r0
  obtain ⟨rfl, rfl, rfl⟩ := trodAll_nil r1
  obtain rfl : args = #[v0, v1] := by cases args; simp_all
  obtain ⟨rfl, rfl⟩ := trodVars_none hV
  have k0 := h0
  have lt0 : ∀ x ∈ p0, x.block < W.heap.size := by obtain ⟨m, hm⟩ := k0; exact DataW.trod_lt m _ _ _ hm
  obtain ⟨b0, l0, c0, rfl⟩ := okWide_slice Try.underlying22 (hval 0 22 v0 rfl rfl)
  obtain ⟨a0, cap0, z0, e0, w0, g0⟩ := open_pairsw (enc := enc) (w := W) (v := .slice b0 l0 c0) (fuel := h0.choose) (by simpa [Value.cells] using h0.choose_spec)
  rw [e0] at hval k0 h0 hW' hval0 hA0
  have k1 := h1
  have lt1 : ∀ x ∈ p1, x.block < W.heap.size := by obtain ⟨m, hm⟩ := k1; exact DataW.trod_lt m _ _ _ hm
  obtain ⟨b1, l1, c1, rfl⟩ := okWide_slice Try.underlying46 (hval 1 46 v1 rfl rfl)
  obtain ⟨a1, len1, cap1, z1, e1, w1⟩ := open_dos (enc := enc) (w := W) (v := .slice b1 l1 c1) (fuel := h1.choose) (by simpa [Value.cells] using h1.choose_spec)
  rw [e1] at hval k1 h1 hW' hval0 hA0
  clear hA0 hval0
  rw [e0]; rw [e1]; refine (walk a0 cap0 z0 a1 len1 cap1 z1 W w0 g0 w1).mono fun e W' ⟨he, bel⟩ => ?_
  subst he
  exact ⟨_, rfl, _, _, _, [], _, [], hW', trodAll_mk1 (shut_bool Try.underlying4 _), (trodAll_cons_mk (Below.trod laidOut (by kernel_rfl) (of_decide_eq_true (by kernel_rfl)) k0 bel lt0) (trodAll_cons_mk (Below.trod laidOut (by kernel_rfl) (of_decide_eq_true (by kernel_rfl)) k1 bel lt1) trodAll_mk0)), rfl, bel.frame _, fun h => by cases h⟩

theorem over : Rows.soundAlwaysRow.holds Try.pinned (OpenSpec.ofChange Rows.soundAlwaysSpec) :=
  OpenClaim.holds_of_wide 5 Try.f5 rfl rfl rfl rfl rfl rfl rfl ⟨rfl, rfl, rfl, rfl, rfl⟩ rfl rfl rfl rfl rfl (by kernel_rfl) Try.func5 (by kernel_rfl)
    (of_decide_eq_true (by kernel_rfl)) (by unfold Func.isWrapper; first | (rw [if_pos (by decide +kernel)]; kernel_rfl) | (rw [if_neg (by decide +kernel)]; exact ⟨rfl, rfl⟩))
    (fun os started H enc _ => lifted os started H enc)

theorem soundAlwaysHolds : Rows.SoundAlwaysSaid := over
#print axioms soundAlwaysHolds
end Go.Proofs.Ytbmlpdkbiipcmaa.soundAlways
