/- osierlaw3.Pairs once more: an empty row is none at all. -/
import Derived.Test.YtbmlpdkbiipcmaaNSrt
namespace Go.Proofs.Ytbmlpdkbiipcmaa
open Go.RowKit
set_option linter.all false

theorem withL_ne (l : List Pr) (k v : Int) (h : Srt l) : withL l k v ≠ [] := by
  rw [withL_srt l k v h]; simp
def FormIs (w : World) (L : List Pr) (e : Ending) (w' : World) : Prop :=
  ∃ ao cp, e = .returned (.slice ao L.length cp) ∧ Prs w' ao cp L ∧ (L = [] → ao = none ∧ cp = 0) ∧ Below w.heap.size w w'

set_option maxRecDepth 100000 in
set_option maxHeartbeats 6400000 in
theorem pairs_form (a : Option Addr) (cap : Nat) (l : List Pr) (most : Nat) (w : World) (h : Prs w a cap l) (hm : most ≤ 1000) :
    Calls Try.prog 7 #[.slice a l.length cap, .int .i64 (most : Int)] w (fun e w' => FormIs w (pairsL l most) e w' ∧ (pairsL l most).length ≤ most) := by
  have HH := Lib.hid h
  have hc1 := h.1
  have hc2 := h.2.1
  clear h
  unfold maxLen at hc2
  go_enter Try.func7, Try.ntmps7
  go_wp2_with (fail)
  go_loopw [5, 10] (fun out i wr => ∃ (n : Nat) (ao : Option Addr) (cp m : Nat) (l' : List Pr), n ≤ l.length ∧ i = .int .i64 n ∧ out = .slice ao m cp ∧ m = l'.length ∧ m ≤ n ∧ m ≤ most ∧ pairsA l most n = l' ∧ Prs wr ao cp l' ∧ (l' = [] → ao = none ∧ cp = 0) ∧ Below w.heap.size w wr) (fun _ i _ => l.length - (intOf i).toNat)
  case atStart => exact ⟨0, none, 0, 0, [], Nat.zero_le _, rfl, rfl, rfl, Nat.le_refl _, Nat.zero_le _, rfl, ⟨Nat.le_refl _, Nat.zero_le _, fun n q hq => by simp at hq⟩, fun _ => ⟨rfl, rfl⟩, Below.refl _ _⟩
  case round =>
    obtain ⟨n, ao, cp, m, l', hn, rfl, rfl, rfl, hm1, hm2, hpa, hP, hF, hb⟩ := hrel
    have HF := Lib.hid hF
    clear hF
    have HA := Lib.hid hpa
    clear hpa
    by_cases hlt : n < l.length
    · obtain ⟨q, hq⟩ : ∃ q, l[n]? = some q := ⟨_, List.getElem?_eq_getElem hlt⟩
      obtain ⟨b, o, rfl, c0, c1⟩ := (HH.out.below hb).2.2 n q hq
      obtain ⟨x0, x1⟩ := q
      dsimp only at c0 c1
      have HQ0 : Hid (l.getD n (0, 0) = (x0, x1)) := Lib.hid (by simp [List.getD, hq])
      clear hq
      have hP1 := hP.below ((Below.refl wr.heap.size wr).alloc (Nat.le_refl _) (.cells #[.int .i64 x0, .int .i64 x1] 24))
      have cw := with_is ao cp l' x0 x1 _ hP1 (by omega)
      have hb1 := hb.alloc hb.size (.cells #[.int .i64 x0, .int .i64 x1] 24)
      have hp1 := hP.1
      have hp2 := hP.2.1
      unfold maxLen at hp2
      have HP := Lib.hid (hP.below ((Below.refl wr.heap.size wr).alloc (Nat.le_refl _) (.cells #[.int .i64 x0, .int .i64 x1] 24)))
      clear hP hP1
      obtain ⟨l2, hl2⟩ : ∃ l2, withL l' x0 x1 = l2 := ⟨_, rfl⟩
      rw [hl2] at cw
      have HL2 := Lib.hid hl2
      clear hl2
      by_cases hmost : n < most
      · have hmost' : (n : Int) < (most : Int) := by omega
        have HM := Lib.hid hmost
        go_wp2_with (go_at_call 21; ((with_reducible refine cw.mono ?_); clear cw; rintro e w1 ⟨⟨ao2, cp2, rfl, hP2, hb2⟩, hn2⟩))
        go_roundw
        case rel => exact ⟨n + 1, _, _, _, l2, by omega, by go_num, rfl, rfl, by omega, by omega, by unfold pairsA; rw [if_pos HM.out, HA.out, HQ0.out]; exact HL2.out, hP2, fun e => absurd (HL2.out.trans e) (withL_ne _ _ _ (HA.out ▸ pairsA_srt l most n)), hb1.trans (hb2.mono hb1.size)⟩
        case measure => simp [intOf]; omega
      · have hmost' : ¬ (n : Int) < (most : Int) := by omega
        have HM := Lib.hid hmost
        clear cw
        go_wp2_with (fail)
        go_roundw
        case rel => exact ⟨n + 1, _, _, _, l', by omega, by go_num, rfl, rfl, by omega, hm2, by unfold pairsA; rw [if_neg HM.out]; exact HA.out, HP.out, HF.out, hb1⟩
        case measure => simp [intOf]; omega
    · obtain rfl : n = l.length := by omega
      go_wp2_with (fail)
      go_ret
      have e : pairsL l most = l' := HA.out
      rw [e]
      exact ⟨⟨_, _, rfl, hP, HF.out, hb⟩, hm2⟩

/-- Sorted pairs of 64 bits in memory: none at all, or at an address. -/
def PairsAt (w : World) (n : Nat) (e : Ending) (w' : World) : Prop :=
  ∃ ao cp l, e = .returned (.slice ao (l : List Pr).length cp) ∧ l.length ≤ n ∧ Srt l ∧ Rng l ∧ Prs w' ao cp l ∧ ((ao = none ∧ cp = 0 ∧ l = []) ∨ ∃ b o, ao = some ⟨b, o, none⟩) ∧ Below w.heap.size w w'
theorem pairs_at (a : Option Addr) (cap : Nat) (l : List Pr) (most : Nat) (w : World) (h : Prs w a cap l) (hr : Rng l) (hm : most ≤ 1000) :
    Calls Try.prog 7 #[.slice a l.length cap, .int .i64 (most : Int)] w (PairsAt w most) :=
  (pairs_form a cap l most w h hm).mono fun e w' ⟨⟨ao, cp, he, hp, hF, hb⟩, hn⟩ => ⟨ao, cp, _, he, hn, pairsL_srt l most, hr.pairs most, hp, (by
    cases hc : pairsL l most with
    | nil => exact .inl ⟨(hF hc).1, (hF hc).2, rfl⟩
    | cons q L =>
      rw [hc] at hp
      obtain ⟨b, o, h, _⟩ := hp.2.2 0 q rfl
      exact .inr ⟨b, o, h⟩), hb⟩
end Go.Proofs.Ytbmlpdkbiipcmaa
