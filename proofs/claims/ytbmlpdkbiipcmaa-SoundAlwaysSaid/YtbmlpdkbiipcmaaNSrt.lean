/- Pairs that may be: their keys rise; With keeps them so; exactly what osierlaw3.Pairs tells. -/
import Derived.Test.YtbmlpdkbiipcmaaNWithX
import Derived.LoopTactic
namespace Go.Proofs.Ytbmlpdkbiipcmaa
open Go.RowKit
set_option linter.all false

/-- The keys rise. -/
def Srt (l : List Pr) : Prop := l.Pairwise (fun a b => a.1 < b.1)

theorem Srt.nil : Srt [] := List.Pairwise.nil
theorem Srt.at {l : List Pr} (h : Srt l) (i j : Nat) (a b : Pr) (hij : i < j) (ha : l[i]? = some a) (hb : l[j]? = some b) : a.1 < b.1 := by
  obtain ⟨hi, ea⟩ := List.getElem?_eq_some_iff.1 ha
  obtain ⟨hj, eb⟩ := List.getElem?_eq_some_iff.1 hb
  have := (List.pairwise_iff_getElem.1 h) i j hi hj hij
  rw [ea, eb] at this
  exact this
theorem Srt.take {l : List Pr} (h : Srt l) (n : Nat) : Srt (l.take n) := h.sublist (List.take_sublist n l)
theorem Srt.drop {l : List Pr} (h : Srt l) (n : Nat) : Srt (l.drop n) := h.sublist (List.drop_sublist n l)
theorem Srt.filter {l : List Pr} (h : Srt l) (p : Pr → Bool) : Srt (l.filter p) := h.sublist List.filter_sublist

theorem wAcc_srt (k v : Int) (l : List Pr) (h : Srt l) : ∀ n, n ≤ l.length →
    ((wAcc k v l n).2 = false → (wAcc k v l n).1 = l.take n ∧ ∀ x ∈ l.take n, x.1 < k) ∧
    ((wAcc k v l n).2 = true → (wAcc k v l n).1 = (l.take n).filter (fun x => decide (x.1 < k)) ++ [(k, v)] ++ (l.take n).filter (fun x => decide (k < x.1)) ∧ ∃ y ∈ l.take n, k ≤ y.1) := by
  intro n
  induction n with
  | zero => intro _; exact ⟨fun _ => ⟨by simp [wAcc], by simp⟩, fun hh => by simp [wAcc] at hh⟩
  | succ n ih =>
    intro hn
    obtain ⟨ih1, ih2⟩ := ih (by omega)
    obtain ⟨x, hx⟩ : ∃ x, l[n]? = some x := ⟨_, List.getElem?_eq_getElem (by omega)⟩
    have hxd : l.getD n (0, 0) = x := by simp [List.getD, hx]
    have htk : l.take (n + 1) = l.take n ++ [x] := by rw [List.take_add_one, hx]; rfl
    have hst : wAcc k v l (n + 1) = wStep k v (wAcc k v l n) x := by show wStep k v (wAcc k v l n) (l.getD n (0, 0)) = _; rw [hxd]
    rw [hst, htk]
    cases hd : (wAcc k v l n).2 with
    | false =>
      obtain ⟨e1, e2⟩ := ih1 hd
      have f1 : (l.take n).filter (fun y => decide (y.1 < k)) = l.take n := List.filter_eq_self.2 (fun y hy => by simpa using e2 y hy)
      have f2 : (l.take n).filter (fun y => decide (k < y.1)) = [] := List.filter_eq_nil_iff.2 (fun y hy => by have := e2 y hy; simp; omega)
      have hs : wAcc k v l n = (l.take n, false) := Prod.ext e1 hd
      rw [hs]
      by_cases hge : k ≤ x.1
      · by_cases hne : x.1 = k
        · have hw : wStep k v (l.take n, false) x = (l.take n ++ [(k, v)], true) := by unfold wStep; rw [if_pos ⟨rfl, hge⟩, if_pos hne]
          rw [hw]
          refine ⟨fun hh => Bool.noConfusion hh, fun _ => ⟨?_, ⟨x, by simp, hge⟩⟩⟩
          rw [List.filter_append, List.filter_append, f1, f2]
          simp [hne]
        · have hw : wStep k v (l.take n, false) x = (l.take n ++ [(k, v)] ++ [x], true) := by unfold wStep; rw [if_pos ⟨rfl, hge⟩, if_neg hne]
          rw [hw]
          refine ⟨fun hh => Bool.noConfusion hh, fun _ => ⟨?_, ⟨x, by simp, hge⟩⟩⟩
          have g1 : ¬ x.1 < k := by omega
          have g2 : k < x.1 := by omega
          rw [List.filter_append, List.filter_append, f1, f2]
          simp [g1, g2]
      · have hne : ¬ x.1 = k := by omega
        have hw : wStep k v (l.take n, false) x = (l.take n ++ [x], false) := by unfold wStep; rw [if_neg (fun hh => hge hh.2), if_neg hne]
        rw [hw]
        refine ⟨fun _ => ⟨rfl, fun y hy => ?_⟩, fun hh => by cases hh⟩
        rcases List.mem_append.1 hy with hy | hy
        · exact e2 y hy
        · simp at hy; subst hy; omega
    | true =>
      obtain ⟨e1, y, hy, hky⟩ := ih2 hd
      have hs : wAcc k v l n = ((l.take n).filter (fun x => decide (x.1 < k)) ++ [(k, v)] ++ (l.take n).filter (fun x => decide (k < x.1)), true) := Prod.ext e1 hd
      rw [hs]
      obtain ⟨i, hi⟩ := List.getElem?_of_mem hy
      have hin : i < n := by
        have := (List.getElem?_eq_some_iff.1 hi).1
        rw [List.length_take] at this
        omega
      rw [List.getElem?_take_of_lt hin] at hi
      have hlt := h.at i n y x hin hi hx
      have g1 : ¬ x.1 < k := by omega
      have g2 : k < x.1 := by omega
      have hne : ¬ x.1 = k := by omega
      have hw : ∀ s : List Pr, wStep k v (s, true) x = (s ++ [x], true) := fun s => by unfold wStep; rw [if_neg (fun hh => by cases hh.1), if_neg hne]
      rw [hw]
      refine ⟨fun hh => Bool.noConfusion hh, fun _ => ⟨?_, ⟨y, List.mem_append_left _ hy, hky⟩⟩⟩
      rw [List.filter_append, List.filter_append]
      simp [g1, g2]

/-- With of pairs that may be: those below, the pair, those above. -/
theorem withL_srt (l : List Pr) (k v : Int) (h : Srt l) : withL l k v = l.filter (fun x => decide (x.1 < k)) ++ [(k, v)] ++ l.filter (fun x => decide (k < x.1)) := by
  obtain ⟨h1, h2⟩ := wAcc_srt k v l h l.length (Nat.le_refl _)
  rw [List.take_length] at h1 h2
  unfold withL
  cases hd : (wAcc k v l l.length).2 with
  | false =>
    obtain ⟨e1, e2⟩ := h1 hd
    rw [if_neg (by decide), e1, List.filter_eq_self.2 (fun y hy => by simpa using e2 y hy), List.filter_eq_nil_iff.2 (fun y hy => by have := e2 y hy; simp; omega), List.append_nil]
  | true =>
    rw [if_pos rfl]
    exact (h2 hd).1
theorem withL_is_srt (l : List Pr) (k v : Int) (h : Srt l) : Srt (withL l k v) := by
  rw [withL_srt l k v h]
  unfold Srt
  rw [List.pairwise_append, List.pairwise_append]
  refine ⟨⟨h.filter _, List.pairwise_singleton _ _, fun a ha b hb => ?_⟩, h.filter _, fun a ha b hb => ?_⟩
  · simp at ha hb
    subst hb
    exact ha.2
  · simp at hb
    rcases List.mem_append.1 ha with ha | ha
    · simp at ha
      omega
    · simp at ha
      subst ha
      exact hb.2

/-! ### Pairs -/

def pairsA (l : List Pr) (most : Nat) : Nat → List Pr
  | 0 => []
  | n + 1 => if n < most then withL (pairsA l most n) (l.getD n (0, 0)).1 (l.getD n (0, 0)).2 else pairsA l most n
def pairsL (l : List Pr) (most : Nat) : List Pr := pairsA l most l.length
theorem pairsA_srt (l : List Pr) (most n : Nat) : Srt (pairsA l most n) := by
  induction n with
  | zero => exact Srt.nil
  | succ n ih =>
    unfold pairsA
    split
    · exact withL_is_srt _ _ _ ih
    · exact ih
theorem pairsL_srt (l : List Pr) (most : Nat) : Srt (pairsL l most) := pairsA_srt l most _

set_option maxRecDepth 100000 in
set_option maxHeartbeats 6400000 in
theorem pairs_is (a : Option Addr) (cap : Nat) (l : List Pr) (most : Nat) (w : World) (h : Prs w a cap l) (hm : most ≤ 1000) :
    Calls Try.prog 7 #[.slice a l.length cap, .int .i64 (most : Int)] w (fun e w' => WithIs w (pairsL l most) e w' ∧ (pairsL l most).length ≤ most) := by
  have HH := Lib.hid h
  have hc1 := h.1
  have hc2 := h.2.1
  clear h
  unfold maxLen at hc2
  go_enter Try.func7, Try.ntmps7
  go_wp2_with (fail)
  go_loopw [5, 10] (fun out i wr => ∃ (n : Nat) (ao : Option Addr) (cp m : Nat) (l' : List Pr), n ≤ l.length ∧ i = .int .i64 n ∧ out = .slice ao m cp ∧ m = l'.length ∧ m ≤ n ∧ m ≤ most ∧ pairsA l most n = l' ∧ Prs wr ao cp l' ∧ Below w.heap.size w wr) (fun _ i _ => l.length - (intOf i).toNat)
  case atStart => exact ⟨0, none, 0, 0, [], Nat.zero_le _, rfl, rfl, rfl, Nat.le_refl _, Nat.zero_le _, rfl, ⟨Nat.le_refl _, Nat.zero_le _, fun n q hq => by simp at hq⟩, Below.refl _ _⟩
  case round =>
    obtain ⟨n, ao, cp, m, l', hn, rfl, rfl, rfl, hm1, hm2, hpa, hP, hb⟩ := hrel
    have HA := Lib.hid hpa
    clear hpa
    by_cases hlt : n < l.length
    · obtain ⟨q, hq⟩ : ∃ q, l[n]? = some q := ⟨_, List.getElem?_eq_getElem hlt⟩
      obtain ⟨b, o, rfl, c0, c1⟩ := (HH.out.below hb).2.2 n q hq
      obtain ⟨x0, x1⟩ := q
      dsimp only at c0 c1
      have HQ0 : Hid (l.getD n (0, 0) = (x0, x1)) := Lib.hid (by simp [List.getD, hq])
      clear hq
      have hP1 := hP.below ((Below.refl wr.heap.size wr).alloc (Nat.le_refl _) (.cells #[.int .i64 x0, .int .i64 x1] 24))
      have cw := with_is ao cp l' x0 x1 _ hP1 (by omega)
      have hb1 := hb.alloc hb.size (.cells #[.int .i64 x0, .int .i64 x1] 24)
      have hp1 := hP.1
      have hp2 := hP.2.1
      unfold maxLen at hp2
      have HP := Lib.hid (hP.below ((Below.refl wr.heap.size wr).alloc (Nat.le_refl _) (.cells #[.int .i64 x0, .int .i64 x1] 24)))
      clear hP hP1
      obtain ⟨l2, hl2⟩ : ∃ l2, withL l' x0 x1 = l2 := ⟨_, rfl⟩
      rw [hl2] at cw
      have HL2 := Lib.hid hl2
      clear hl2
      by_cases hmost : n < most
      · have hmost' : (n : Int) < (most : Int) := by omega
        have HM := Lib.hid hmost
        go_wp2_with (go_at_call 21; ((with_reducible refine cw.mono ?_); clear cw; rintro e w1 ⟨⟨ao2, cp2, rfl, hP2, hb2⟩, hn2⟩))
        go_roundw
        case rel => exact ⟨n + 1, _, _, _, l2, by omega, by go_num, rfl, rfl, by omega, by omega, by unfold pairsA; rw [if_pos HM.out, HA.out, HQ0.out]; exact HL2.out, hP2, hb1.trans (hb2.mono hb1.size)⟩
        case measure => simp [intOf]; omega
      · have hmost' : ¬ (n : Int) < (most : Int) := by omega
        have HM := Lib.hid hmost
        clear cw
        go_wp2_with (fail)
        go_roundw
        case rel => exact ⟨n + 1, _, _, _, l', by omega, by go_num, rfl, rfl, by omega, hm2, by unfold pairsA; rw [if_neg HM.out]; exact HA.out, HP.out, hb1⟩
        case measure => simp [intOf]; omega
    · obtain rfl : n = l.length := by omega
      go_wp2_with (fail)
      go_ret
      have e : pairsL l most = l' := HA.out
      rw [e]
      exact ⟨⟨_, _, rfl, hP, hb⟩, hm2⟩

theorem withL_mem {l : List Pr} {k v : Int} {x : Pr} (h : Srt l) (hx : x ∈ withL l k v) : x = (k, v) ∨ x ∈ l := by
  rw [withL_srt l k v h] at hx
  rcases List.mem_append.1 hx with hx | hx
  · rcases List.mem_append.1 hx with hx | hx
    · exact .inr (List.mem_filter.1 hx).1
    · exact .inl (List.mem_singleton.1 hx)
  · exact .inr (List.mem_filter.1 hx).1
theorem pairsA_mem {l : List Pr} {most : Nat} {x : Pr} : ∀ n, n ≤ l.length → x ∈ pairsA l most n → x ∈ l := by
  intro n
  induction n with
  | zero => intro _ hx; cases hx
  | succ n ih =>
    intro hn hx
    unfold pairsA at hx
    split at hx
    · rcases withL_mem (pairsA_srt l most n) hx with rfl | hx
      · have e : l.getD n (0, 0) = l[n] := by simp [List.getD, List.getElem?_eq_getElem (show n < l.length by omega)]
        rw [show ((l.getD n (0, 0)).1, (l.getD n (0, 0)).2) = l.getD n (0, 0) from rfl, e]
        exact List.getElem_mem _
      · exact ih (by omega) hx
    · exact ih (by omega) hx
theorem Rng.pairs {l : List Pr} (h : Rng l) (most : Nat) : Rng (pairsL l most) := fun q hq => h q (pairsA_mem _ (Nat.le_refl _) hq)
theorem Rng.key {l : List Pr} (h : Rng l) {q : Pr} (hq : q ∈ l) : -9223372036854775808 ≤ q.1 ∧ q.1 ≤ 9223372036854775807 := wf_range (h q hq).1

/-- What Pairs tells, as far as most laws ask: sorted pairs of 64 bits in memory. -/
def PairsIs (w : World) (n : Nat) (e : Ending) (w' : World) : Prop :=
  ∃ ao cp l, e = .returned (.slice ao (l : List Pr).length cp) ∧ l.length ≤ n ∧ Srt l ∧ Rng l ∧ Prs w' ao cp l ∧ Below w.heap.size w w'
theorem pairs_srt (a : Option Addr) (cap : Nat) (l : List Pr) (most : Nat) (w : World) (h : Prs w a cap l) (hr : Rng l) (hm : most ≤ 1000) :
    Calls Try.prog 7 #[.slice a l.length cap, .int .i64 (most : Int)] w (PairsIs w most) :=
  (pairs_is a cap l most w h hm).mono fun e w' ⟨⟨ao, cp, he, hp, hb⟩, hn⟩ => ⟨ao, cp, _, he, hn, pairsL_srt l most, hr.pairs most, hp, hb⟩
end Go.Proofs.Ytbmlpdkbiipcmaa
