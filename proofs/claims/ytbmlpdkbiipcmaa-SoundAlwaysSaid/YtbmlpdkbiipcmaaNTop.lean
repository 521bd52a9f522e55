/- Contracts of osierref1.Top, High; osierlaw3.Pairs; the plain mathematics of them. -/
import Derived.Test.YtbmlpdkbiipcmaaNSrt
import Derived.Test.YtbmlpdkbiipcmaaAbv
import Derived.Deep.QuietTactic
import Derived.BigQuiet
namespace Go.Proofs.Ytbmlpdkbiipcmaa
open Go.RowKit
set_option linter.all false

/-! ### Pairs -/

set_option maxRecDepth 100000 in
set_option maxHeartbeats 6400000 in
theorem pairs_any (a : Option Addr) (cap : Nat) (l : List Pr) (most : Nat) (w : World) (h : Prs w a cap l) (hm : most ≤ 1000) :
    Calls Try.prog 7 #[.slice a l.length cap, .int .i64 (most : Int)] w (WithSays w most) := by
  have HH := Lib.hid h
  have hc1 := h.1
  have hc2 := h.2.1
  clear h
  unfold maxLen at hc2
  go_enter Try.func7, Try.ntmps7
  go_wp2_with (fail)
  go_loopw [5, 10] (fun out i wr => ∃ (n : Nat) (ao : Option Addr) (cp m : Nat) (l' : List Pr), n ≤ l.length ∧ i = .int .i64 n ∧ out = .slice ao m cp ∧ m = l'.length ∧ m ≤ n ∧ m ≤ most ∧ Prs wr ao cp l' ∧ Below w.heap.size w wr) (fun _ i _ => l.length - (intOf i).toNat)
  case atStart => exact ⟨0, none, 0, 0, [], Nat.zero_le _, rfl, rfl, rfl, Nat.le_refl _, Nat.zero_le _, ⟨Nat.le_refl _, Nat.zero_le _, fun n q hq => by simp at hq⟩, Below.refl _ _⟩
  case round =>
    obtain ⟨n, ao, cp, m, l', hn, rfl, rfl, rfl, hm1, hm2, hP, hb⟩ := hrel
    by_cases hlt : n < l.length
    · obtain ⟨q, hq⟩ : ∃ q, l[n]? = some q := ⟨_, List.getElem?_eq_getElem hlt⟩
      obtain ⟨b, o, rfl, c0, c1⟩ := (HH.out.below hb).2.2 n q hq
      obtain ⟨x0, x1⟩ := q
      dsimp only at c0 c1
      clear hq
      have hP1 := hP.below ((Below.refl wr.heap.size wr).alloc (Nat.le_refl _) (.cells #[.int .i64 x0, .int .i64 x1] 24))
      have cw := with_any ao cp l' x0 x1 _ hP1 (by omega)
      have hb1 := hb.alloc hb.size (.cells #[.int .i64 x0, .int .i64 x1] 24)
      have hp1 := hP.1
      have hp2 := hP.2.1
      unfold maxLen at hp2
      have HP := Lib.hid (hP.below ((Below.refl wr.heap.size wr).alloc (Nat.le_refl _) (.cells #[.int .i64 x0, .int .i64 x1] 24)))
      clear hP hP1
      by_cases hmost : n < most
      · have hmost' : (n : Int) < (most : Int) := by omega
        go_wp2_with (go_at_call 21; ((with_reducible refine cw.mono ?_); clear cw; rintro e w1 ⟨ao2, cp2, l2, rfl, hl2, hP2, hb2⟩))
        go_roundw
        case rel => exact ⟨n + 1, _, _, _, l2, by omega, by go_num, rfl, rfl, by omega, by omega, hP2, hb1.trans (hb2.mono hb1.size)⟩
        case measure => simp [intOf]; omega
      · have hmost' : ¬ (n : Int) < (most : Int) := by omega
        clear cw
        go_wp2_with (fail)
        go_roundw
        case rel => exact ⟨n + 1, _, _, _, l', by omega, by go_num, rfl, rfl, by omega, hm2, HP.out, hb1⟩
        case measure => simp [intOf]; omega
    · obtain rfl : n = l.length := by omega
      go_wp2_with (fail)
      go_ret
      exact ⟨_, _, l', rfl, hm2, hP, hb⟩

/-! ### Top -/

/-- The place of the pair above all others, of the first n. -/
def bestF (l : List Pr) : Nat → Int
  | 0 => -1
  | n + 1 => if bestF l n < 0 then (n : Int) else if abv (l.getD n (0, 0)).1 (l.getD (bestF l n).toNat (0, 0)).1 = true then (n : Int) else bestF l n
theorem bestF_lt (l : List Pr) : ∀ n : Nat, -1 ≤ bestF l n ∧ bestF l n < n ∧ (0 < n → 0 ≤ bestF l n) := by
  intro n
  induction n with
  | zero => exact ⟨Int.le_refl _, by show (-1 : Int) < 0; decide, fun h => absurd h (by decide)⟩
  | succ n ih =>
    unfold bestF
    split
    · exact ⟨by omega, by omega, fun _ => by omega⟩
    · split
      · exact ⟨by omega, by omega, fun _ => by omega⟩
      · exact ⟨by omega, by omega, fun _ => by omega⟩
def topL (l : List Pr) : Int := bestF l l.length
theorem topL_lt (l : List Pr) : -1 ≤ topL l ∧ topL l < l.length ∧ (0 < l.length → 0 ≤ topL l) := bestF_lt l l.length
theorem topL_nil : topL [] = -1 := rfl

theorem above_yea (a b : Int) (h : abv a b = true) (w : World) : Calls Try.prog 15 #[.int .i64 a, .int .i64 b] w fun e w' => e = .returned (.bool true) ∧ w' = w :=
  (aboveR_any a b w).mono fun _ _ g => ⟨by rw [g.1, h], g.2.symm⟩
theorem above_nay (a b : Int) (h : abv a b = false) (w : World) : Calls Try.prog 15 #[.int .i64 a, .int .i64 b] w fun e w' => e = .returned (.bool false) ∧ w' = w :=
  (aboveR_any a b w).mono fun _ _ g => ⟨by rw [g.1, h], g.2.symm⟩

set_option maxRecDepth 100000 in
set_option maxHeartbeats 6400000 in
theorem top_any (a : Option Addr) (cap : Nat) (l : List Pr) (w : World) (h : Prs w a cap l) :
    Calls Try.prog 16 #[.slice a l.length cap] w fun e w' => e = .returned (.int .i64 (topL l)) ∧ Below w.heap.size w w' := by
  have HH := Lib.hid h
  have hc1 := h.1
  have hc2 := h.2.1
  clear h
  unfold maxLen at hc2
  go_enter Try.func16, Try.ntmps16
  go_wp2_with (fail)
  go_loopw [3, 8] (fun best i wr => ∃ n : Nat, n ≤ l.length ∧ i = .int .i64 n ∧ best = .int .i64 (bestF l n) ∧ Below w.heap.size w wr) (fun _ i _ => l.length - (intOf i).toNat)
  case atStart => exact ⟨0, Nat.zero_le _, rfl, rfl, Below.refl _ _⟩
  case round =>
    obtain ⟨n, hn, rfl, rfl, hb⟩ := hrel
    have hB := bestF_lt l n
    by_cases hlt : n < l.length
    · obtain ⟨q, hq⟩ : ∃ q, l[n]? = some q := ⟨_, List.getElem?_eq_getElem hlt⟩
      have hqd : l.getD n (0, 0) = q := by simp [List.getD, hq]
      obtain ⟨b, o, rfl, c0, c1⟩ := (HH.out.below hb).2.2 n q hq
      obtain ⟨x0, x1⟩ := q
      dsimp only at c0 c1
      clear hq
      have hstep : bestF l (n + 1) = if bestF l n < 0 then (n : Int) else if abv x0 (l.getD (bestF l n).toNat (0, 0)).1 = true then (n : Int) else bestF l n := by
        show (if _ then _ else _) = _
        rw [hqd]
      have hb1 := hb.alloc hb.size (.cells #[.int .i64 x0, .int .i64 x1] 24)
      clear hqd
      obtain ⟨B, hBe⟩ : ∃ B, bestF l n = B := ⟨_, rfl⟩
      rw [hBe] at hB hstep
      rw [hBe]
      by_cases hneg : B < 0
      · rw [if_pos hneg] at hstep
        have HS := Lib.hid hstep
        clear hBe hstep
        go_wp2_with (fail)
        go_quiet (fail)
        go_wp2_with (fail)
        go_roundw
        case rel => exact ⟨n + 1, by omega, by go_num, by rw [HS.out], below_drewN hb1 _⟩
        case measure => simp [intOf]; omega
      · rw [if_neg hneg] at hstep
        obtain ⟨m, hm⟩ : ∃ m : Nat, B = m := ⟨B.toNat, by omega⟩
        subst hm
        rw [Int.toNat_natCast] at hstep
        have hml : m < l.length := by omega
        obtain ⟨q2, hq2⟩ : ∃ q, l[m]? = some q := ⟨_, List.getElem?_eq_getElem hml⟩
        have hqd2 : l.getD m (0, 0) = q2 := by simp [List.getD, hq2]
        obtain ⟨b2, o2, e2, g0, _⟩ := (HH.out.below hb1).2.2 m q2 hq2
        obtain ⟨y0, y1⟩ := q2
        cases e2
        rw [hqd2] at hstep
        dsimp only at g0 hstep
        have hmi : (m : Int) < (l.length : Int) := by omega
        have hm0 : (0 : Int) ≤ (m : Int) := by omega
        have hmn : ¬ (m : Int) < 0 := by omega
        have hmn' : decide ((m : Int) < 0) = false := by simp
        clear hqd2 hq2 hneg hBe
        cases hv : abv x0 y0
        · have cb := fun W => above_nay x0 y0 hv W
          rw [if_neg (by rw [hv]; decide)] at hstep
          have HS := Lib.hid hstep
          clear hstep hv
          go_wp2_with (fail)
          go_quiet ((go_at_call 15; refine Calls.quiet_of_same (cb _)))
          go_wp2_with (fail)
          go_roundw
          case rel => exact ⟨n + 1, by omega, by go_num, by rw [HS.out], below_drewN hb1 _⟩
          case measure => simp [intOf]; omega
        · have cb := fun W => above_yea x0 y0 hv W
          rw [if_pos hv] at hstep
          have HS := Lib.hid hstep
          clear hstep hv
          go_wp2_with (fail)
          go_quiet ((go_at_call 15; refine Calls.quiet_of_same (cb _)))
          go_wp2_with (fail)
          go_roundw
          case rel => exact ⟨n + 1, by omega, by go_num, by rw [HS.out], below_drewN hb1 _⟩
          case measure => simp [intOf]; omega
    · obtain rfl : n = l.length := by omega
      go_wp2_with (fail)
      go_ret
      exact ⟨rfl, hb⟩
end Go.Proofs.Ytbmlpdkbiipcmaa
