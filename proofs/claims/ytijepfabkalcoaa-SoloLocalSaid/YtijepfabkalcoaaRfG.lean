/- osierref1's functions on rows of pairs, without an arena: With, Without, Between, SamePairs, Find, MayPairs exactly; leaf.May the same. No condition: definitions and lemmas. -/
import Derived.Test.YtijepfabkalcoaaPrG
import Derived.LoopTactic
namespace Go.Proofs.Ytijepfabkalcoaa
open Go.RowKit
set_option linter.all false

def cutL (l : List Pr) (k : Int) : List Pr := l.filter (fun z => z.1 != k)
theorem cutL_mem {l : List Pr} {k : Int} {z : Pr} : z ∈ cutL l k ↔ z ∈ l ∧ z.1 ≠ k := by unfold cutL; rw [List.mem_filter]; simp
theorem cutL_srt {l : List Pr} (h : Srt l) (k : Int) : Srt (cutL l k) := h.filter _
theorem cutL_len (l : List Pr) (k : Int) : (cutL l k).length ≤ l.length := List.length_filter_le _ _
theorem cutL_all {l : List Pr} {k : Int} (h : ∀ z ∈ l, z.1 ≠ k) : cutL l k = l := List.filter_eq_self.2 (fun z hz => by simpa using h z hz)
def rngL (l : List Pr) (lo hi : Int) : List Pr := l.filter (fun z => decide (lo ≤ z.1) && decide (z.1 ≤ hi))
theorem rngL_len (l : List Pr) (lo hi : Int) : (rngL l lo hi).length ≤ l.length := List.length_filter_le _ _
theorem rngL_app (A B : List Pr) (lo hi : Int) : rngL (A ++ B) lo hi = rngL A lo hi ++ rngL B lo hi := List.filter_append ..
theorem rngL_none {l : List Pr} {lo hi : Int} (h : ∀ z ∈ l, ¬ (lo ≤ z.1 ∧ z.1 ≤ hi)) : rngL l lo hi = [] :=
  List.filter_eq_nil_iff.2 (fun z hz => by have := h z hz; simp; omega)
theorem rngL_all {l : List Pr} {lo hi : Int} (h : ∀ z ∈ l, lo ≤ z.1 ∧ z.1 ≤ hi) : rngL l lo hi = l :=
  List.filter_eq_self.2 (fun z hz => by have := h z hz; simp; omega)
set_option maxRecDepth 100000 in
set_option maxHeartbeats 6400000 in
theorem samep_any (a a2 : Option Addr) (cap cap2 : Nat) (l m : List Pr) (w : World) (h : Prs w a cap l) (h2 : Prs w a2 cap2 m) (B : Bool) (hB : decide (l = m) = B) :
    Calls Try.prog 19 #[.slice a l.length cap, .slice a2 m.length cap2] w fun e w' => e = .returned (.bool B) ∧ Below w.heap.size w w' := by
  by_cases hlen : l.length = m.length
  · have HB := Lib.hid hB
    have HH := Lib.hid h
    have HH2 := Lib.hid h2
    have hc1 := h.1
    have hc2 := h.2.1
    have hc3 := h2.1
    have hc4 := h2.2.1
    have HLEN := Lib.hid hlen
    have hlen' : ((l.length : Int) == (m.length : Int)) = true := by simp [hlen]
    rw [← hlen] at hc3
    rw [← hlen]
    clear h h2 hB hlen
    unfold maxLen at hc2 hc4
    go_enter Try.func19, Try.ntmps19
    go_wp2_with (fail)
    go_loopw [13] (fun i wr => ∃ n : Nat, n ≤ l.length ∧ i = .int .i64 n ∧ (∀ j, j < n → l[j]? = m[j]?) ∧ Below w.heap.size w wr) (fun i _ => l.length - (intOf i).toNat)
    case atStart => exact ⟨0, Nat.zero_le _, rfl, fun j hj => absurd hj (Nat.not_lt_zero j), Below.refl _ _⟩
    case round =>
      obtain ⟨n, hn, rfl, hall, hb⟩ := hrel
      have HALL := Lib.hid hall
      clear hall
      by_cases hlt : n < l.length
      · obtain ⟨q, hq⟩ : ∃ q, l[n]? = some q := ⟨_, List.getElem?_eq_getElem hlt⟩
        obtain ⟨q', hq'⟩ : ∃ q, m[n]? = some q := ⟨_, List.getElem?_eq_getElem (by have := HLEN.out; omega)⟩
        obtain ⟨b, o, rfl, c0, c1⟩ := (HH.out.below hb).2.2.1 n q hq
        obtain ⟨b', o', rfl, d0, d1⟩ := (HH2.out.below hb).2.2.1 n q' hq'
        have HQ := Lib.hid (And.intro hq hq')
        obtain ⟨x0, x1⟩ := q
        obtain ⟨y0, y1⟩ := q'
        dsimp only at c0 c1 d0 d1
        clear hq hq'
        have hn0 : (0 : Int) ≤ (n : Int) := by omega
        have hnl : (n : Int) < (l.length : Int) := by omega
        by_cases he0 : x0 = y0
        · by_cases he1 : x1 = y1
          · subst he0
            subst he1
            go_wp2_with (fail)
            go_quiet (fail)
            go_wp2_with (fail)
            go_roundw
            case rel => exact ⟨n + 1, by omega, by go_num, fun j hj => by
              rcases Nat.lt_succ_iff_lt_or_eq.1 hj with hj | rfl
              · exact HALL.out j hj
              · rw [HQ.out.1, HQ.out.2], below_drewN hb _⟩
            case measure => simp [intOf]; omega
          · subst he0
            have hne : B = false := by
              rw [← HB.out]
              refine decide_eq_false (fun e => he1 ?_)
              subst e
              have := HQ.out.1.symm.trans HQ.out.2
              simp at this
              exact this
            have he1' : (x1 == y1) = false := by simp [he1]
            go_wp2_with (fail)
            go_quiet (fail)
            go_wp2_with (fail)
            go_ret
            exact ⟨by rw [hne]; rfl, below_drewN hb _⟩
        · have hne : B = false := by
            rw [← HB.out]
            refine decide_eq_false (fun e => he0 ?_)
            subst e
            have := HQ.out.1.symm.trans HQ.out.2
            simp at this
            exact this.1
          have he0' : (x0 == y0) = false := by simp [he0]
          go_wp2_with (fail)
          go_quiet (fail)
          go_wp2_with (fail)
          go_ret
          exact ⟨by rw [hne]; rfl, below_drewN hb _⟩
      · obtain rfl : n = l.length := by omega
        have heq : l = m := by
          apply List.ext_getElem?
          intro j
          by_cases hj : j < l.length
          · exact HALL.out j hj
          · rw [List.getElem?_eq_none (by omega), List.getElem?_eq_none (by have := HLEN.out; omega)]
        have hB : B = true := by rw [← HB.out]; exact decide_eq_true heq
        clear heq
        go_wp2_with (fail)
        go_ret
        exact ⟨by rw [hB]; rfl, hb⟩
  · have hne : B = false := by
      rw [← hB]
      exact decide_eq_false (fun e => hlen (by rw [e]))
    have hlen' : ((l.length : Int) == (m.length : Int)) = false := by simp; omega
    subst hne
    have hc2 := h.2.1
    have hc4 := h2.2.1
    clear h h2 hB hlen
    go_enter Try.func19, Try.ntmps19
    go_wp2_with (fail)
    go_ret
    exact ⟨rfl, Below.refl _ _⟩

/-! ### Find -/

/-! ### May -/

instance srtDec (l : List Pr) : Decidable (Srt l) := by unfold Srt; infer_instance
theorem adj_srt : ∀ (l : List Pr), (∀ (i : Nat) (a b : Pr), l[i]? = some a → l[i + 1]? = some b → a.1 < b.1) → Srt l := by
  intro l
  induction l with
  | nil => intro _; exact Srt.nil
  | cons q l ih =>
    intro h
    have hl : Srt l := ih (fun i a b ha hb => h (i + 1) a b (by simpa using ha) (by simpa using hb))
    refine List.pairwise_cons.2 ⟨fun x hx => ?_, hl⟩
    cases l with
    | nil => cases hx
    | cons r l =>
      have h0 := h 0 q r rfl rfl
      rcases List.mem_cons.1 hx with rfl | hx
      · exact h0
      · exact Int.lt_trans h0 ((List.pairwise_cons.1 hl).1 x hx)

set_option maxRecDepth 100000 in
set_option maxHeartbeats 6400000 in
theorem rmay_any (a : Option Addr) (cap : Nat) (l : List Pr) (w : World) (h : Prs w a cap l) (B : Bool) (hB : decide (Srt l) = B) :
    Calls Try.prog 30 #[.slice a l.length cap] w fun e w' => e = .returned (.bool B) ∧ Below w.heap.size w w' := by
  have HH := Lib.hid h
  have HB := Lib.hid hB
  have hc1 := h.1
  have hc2 := h.2.1
  clear h hB
  unfold maxLen at hc2
  go_enter Try.func30, Try.ntmps30
  go_wp2_with (fail)
  go_loopw [3] (fun i wr => ∃ n : Nat, n ≤ l.length ∧ i = .int .i64 (n + 1 : Int) ∧ (∀ (j : Nat) (a b : Pr), j < n → l[j]? = some a → l[j + 1]? = some b → a.1 < b.1) ∧ Below w.heap.size w wr) (fun i _ => l.length + 1 - (intOf i).toNat)
  case atStart => exact ⟨0, Nat.zero_le _, rfl, fun j _ _ hj => absurd hj (Nat.not_lt_zero _), Below.refl _ _⟩
  case round =>
    obtain ⟨n, hn, rfl, hall, hb⟩ := hrel
    have HALL := Lib.hid hall
    clear hall
    by_cases hlt : n + 1 < l.length
    · obtain ⟨q, hq⟩ : ∃ q, l[n]? = some q := ⟨_, List.getElem?_eq_getElem (by omega)⟩
      obtain ⟨q', hq'⟩ : ∃ q, l[n + 1]? = some q := ⟨_, List.getElem?_eq_getElem hlt⟩
      obtain ⟨b, o, rfl, c0, _⟩ := (HH.out.below hb).2.2.1 n q hq
      obtain ⟨b', o', e, d0, _⟩ := (HH.out.below hb).2.2.1 (n + 1) q' hq'
      cases e
      obtain ⟨x0, x1⟩ := q
      obtain ⟨y0, y1⟩ := q'
      dsimp only at c0 d0
      have HQ := Lib.hid (And.intro hq hq')
      clear hq hq'
      have hlt' : (n : Int) + 1 < (l.length : Int) := by omega
      have hn0 : (0 : Int) ≤ (n : Int) := by omega
      have hn1 : (0 : Int) ≤ (n : Int) + 1 := by omega
      have hnl : (n : Int) < (l.length : Int) := by omega
      have hw2 : IntKind.i64.wrap ((n : Int) + 1 - 1) = (n : Int) := by rw [IntKind.wrap_i64]; omega
      have ht : ((n : Int) + 1).toNat = n + 1 := by omega
      by_cases hxy : y0 ≤ x0
      · have hy : decide (y0 ≤ x0) = true := decide_eq_true hxy
        have hB : B = false := by
          rw [← HB.out]
          refine decide_eq_false (fun hs => ?_)
          have := hs.at n (n + 1) _ _ (by omega) HQ.out.1 HQ.out.2
          dsimp only at this
          omega
        clear hxy
        go_wp2_with (fail)
        go_quiet (fail)
        go_wp2_with (fail)
        go_ret
        exact ⟨congrArg (fun b : Bool => Ending.returned (.bool b)) hB.symm, below_drewN hb _⟩
      · have hy : decide (y0 ≤ x0) = false := decide_eq_false hxy
        have HL := Lib.hid (show x0 < y0 by omega)
        clear hxy
        go_wp2_with (fail)
        go_quiet (fail)
        go_wp2_with (fail)
        go_roundw
        case rel => exact ⟨n + 1, by omega, by go_num, fun j a b hj ha hb => by
          rcases Nat.lt_succ_iff_lt_or_eq.1 hj with hj | rfl
          · exact HALL.out j a b hj ha hb
          · have h1 := HQ.out.1.symm.trans ha
            have h2 := HQ.out.2.symm.trans hb
            cases h1; cases h2
            exact HL.out, below_drewN hb _⟩
        case measure => simp [intOf]; omega
    · have hge : ¬ (n : Int) + 1 < (l.length : Int) := by omega
      have hB : B = true := by
        rw [← HB.out]
        refine decide_eq_true (adj_srt l (fun i a b ha hb => HALL.out i a b ?_ ha hb))
        have := (List.getElem?_eq_some_iff.1 hb).1
        omega
      go_wp2_with (fail)
      go_ret
      exact ⟨rfl, hb⟩

set_option maxRecDepth 100000 in
set_option maxHeartbeats 6400000 in
theorem lmay_any (a : Option Addr) (cap : Nat) (l : List Pr) (w : World) (h : Prs w a cap l) (B : Bool) (hB : decide (Srt l) = B) :
    Calls Try.prog 53 #[.slice a l.length cap] w fun e w' => e = .returned (.bool B) ∧ Below w.heap.size w w' := by
  have HH := Lib.hid h
  have HB := Lib.hid hB
  have hc1 := h.1
  have hc2 := h.2.1
  clear h hB
  unfold maxLen at hc2
  go_enter Try.func53, Try.ntmps53
  go_wp2_with (fail)
  go_loopw [3] (fun i wr => ∃ n : Nat, n ≤ l.length ∧ i = .int .i64 (n + 1 : Int) ∧ (∀ (j : Nat) (a b : Pr), j < n → l[j]? = some a → l[j + 1]? = some b → a.1 < b.1) ∧ Below w.heap.size w wr) (fun i _ => l.length + 1 - (intOf i).toNat)
  case atStart => exact ⟨0, Nat.zero_le _, rfl, fun j _ _ hj => absurd hj (Nat.not_lt_zero _), Below.refl _ _⟩
  case round =>
    obtain ⟨n, hn, rfl, hall, hb⟩ := hrel
    have HALL := Lib.hid hall
    clear hall
    by_cases hlt : n + 1 < l.length
    · obtain ⟨q, hq⟩ : ∃ q, l[n]? = some q := ⟨_, List.getElem?_eq_getElem (by omega)⟩
      obtain ⟨q', hq'⟩ : ∃ q, l[n + 1]? = some q := ⟨_, List.getElem?_eq_getElem hlt⟩
      obtain ⟨b, o, rfl, c0, _⟩ := (HH.out.below hb).2.2.1 n q hq
      obtain ⟨b', o', e, d0, _⟩ := (HH.out.below hb).2.2.1 (n + 1) q' hq'
      cases e
      obtain ⟨x0, x1⟩ := q
      obtain ⟨y0, y1⟩ := q'
      dsimp only at c0 d0
      have HQ := Lib.hid (And.intro hq hq')
      clear hq hq'
      have hlt' : (n : Int) + 1 < (l.length : Int) := by omega
      have hn0 : (0 : Int) ≤ (n : Int) := by omega
      have hn1 : (0 : Int) ≤ (n : Int) + 1 := by omega
      have hnl : (n : Int) < (l.length : Int) := by omega
      have hw2 : IntKind.i64.wrap ((n : Int) + 1 - 1) = (n : Int) := by rw [IntKind.wrap_i64]; omega
      have ht : ((n : Int) + 1).toNat = n + 1 := by omega
      by_cases hxy : y0 ≤ x0
      · have hy : decide (y0 ≤ x0) = true := decide_eq_true hxy
        have hB : B = false := by
          rw [← HB.out]
          refine decide_eq_false (fun hs => ?_)
          have := hs.at n (n + 1) _ _ (by omega) HQ.out.1 HQ.out.2
          dsimp only at this
          omega
        clear hxy
        go_wp2_with (fail)
        go_quiet (fail)
        go_wp2_with (fail)
        go_ret
        exact ⟨congrArg (fun b : Bool => Ending.returned (.bool b)) hB.symm, below_drewN hb _⟩
      · have hy : decide (y0 ≤ x0) = false := decide_eq_false hxy
        have HL := Lib.hid (show x0 < y0 by omega)
        clear hxy
        go_wp2_with (fail)
        go_quiet (fail)
        go_wp2_with (fail)
        go_roundw
        case rel => exact ⟨n + 1, by omega, by go_num, fun j a b hj ha hb => by
          rcases Nat.lt_succ_iff_lt_or_eq.1 hj with hj | rfl
          · exact HALL.out j a b hj ha hb
          · have h1 := HQ.out.1.symm.trans ha
            have h2 := HQ.out.2.symm.trans hb
            cases h1; cases h2
            exact HL.out, below_drewN hb _⟩
        case measure => simp [intOf]; omega
    · have hge : ¬ (n : Int) + 1 < (l.length : Int) := by omega
      have hB : B = true := by
        rw [← HB.out]
        refine decide_eq_true (adj_srt l (fun i a b ha hb => HALL.out i a b ?_ ha hb))
        have := (List.getElem?_eq_some_iff.1 hb).1
        omega
      go_wp2_with (fail)
      go_ret
      exact ⟨rfl, hb⟩

end Go.Proofs.Ytijepfabkalcoaa

