/- The plain mathematics of treaps of pairs; contract of osierref1.High. -/
import Derived.Test.YtbmlpdkbiipcmaaNTop
import Derived.Deep.RegionHeld3
namespace Go.Proofs.Ytbmlpdkbiipcmaa
open Go.RowKit
set_option linter.all false

theorem take_lt (l : List Pr) (h : ¬ topL l < 0) : (l.take (topL l).toNat).length < l.length := by
  have := topL_lt l
  rw [List.length_take]; omega
theorem drop_lt (l : List Pr) (h : ¬ topL l < 0) : (l.drop ((topL l).toNat + 1)).length < l.length := by
  have := topL_lt l
  rw [List.length_drop]; omega

/-- The height of the treap of some pairs. -/
def hi (l : List Pr) : Nat :=
  if h : topL l < 0 then 0 else 1 + max (hi (l.take (topL l).toNat)) (hi (l.drop ((topL l).toNat + 1)))
termination_by l.length
decreasing_by
  · exact take_lt l h
  · exact drop_lt l h

theorem hi_neg (l : List Pr) (h : topL l < 0) : hi l = 0 := by rw [hi, dif_pos h]
theorem hi_at (l : List Pr) (i : Nat) (h : topL l = i) : hi l = 1 + max (hi (l.take i)) (hi (l.drop (i + 1))) := by
  rw [hi, dif_neg (by omega), h]; rfl
theorem hi_le : ∀ (n : Nat) (l : List Pr), l.length ≤ n → hi l ≤ l.length := by
  intro n
  induction n with
  | zero => intro l h; rw [hi_neg l (by have := topL_lt l; omega)]; exact Nat.zero_le _
  | succ n ih =>
    intro l h
    by_cases ht : topL l < 0
    · rw [hi_neg l ht]; exact Nat.zero_le _
    · have hb := topL_lt l
      obtain ⟨i, hi'⟩ : ∃ i : Nat, topL l = i := ⟨(topL l).toNat, by omega⟩
      rw [hi_at l i hi']
      have h1 := ih (l.take i) (by rw [List.length_take]; omega)
      have h2 := ih (l.drop (i + 1)) (by rw [List.length_drop]; omega)
      rw [List.length_take] at h1
      rw [List.length_drop] at h2
      omega
theorem topL_pos (l : List Pr) (h : topL l < 0) : l = [] := by
  have := topL_lt l
  exact List.eq_nil_of_length_eq_zero (by omega)

/-- The two halves as slices. -/
theorem Prs.take {w : World} {a : Option Addr} {cap : Nat} {l : List Pr} (h : Prs w a cap l) (i : Nat) (hi : i < l.length) : (l.take i).length = i ∧ Prs w a cap (l.take i) := by
  have hl : (l.take i).length = i := by rw [List.length_take]; omega
  refine ⟨hl, by rw [hl]; have := h.1; omega, h.2.1, fun n q hq => ?_⟩
  have hn : n < i := by
    have := (List.getElem?_eq_some_iff.1 hq).1
    omega
  rw [List.getElem?_take_of_lt hn] at hq
  exact h.2.2 n q hq
theorem Prs.drop {w : World} {b o : Nat} {cap : Nat} {l : List Pr} (h : Prs w (some ⟨b, o, none⟩) cap l) (i : Nat) (hi : i < l.length) :
    ∃ aD, (l.drop (i + 1)).length = l.length - (i + 1) ∧ Prs w aD (cap - (i + 1)) (l.drop (i + 1)) ∧ ((cap = i + 1 ∧ aD = some ⟨b, o, none⟩) ∨ (¬ cap = i + 1 ∧ aD = some ⟨b, o + (i + 1) * 2, none⟩)) := by
  have hl : (l.drop (i + 1)).length = l.length - (i + 1) := by rw [List.length_drop]
  have h1 := h.1
  have h2 := h.2.1
  by_cases hc : cap = i + 1
  · refine ⟨_, hl, ⟨by rw [hl]; omega, by omega, fun n q hq => ?_⟩, .inl ⟨hc, rfl⟩⟩
    have := (List.getElem?_eq_some_iff.1 hq).1
    omega
  · refine ⟨_, hl, ⟨by rw [hl]; omega, by omega, fun n q hq => ?_⟩, .inr ⟨hc, rfl⟩⟩
    rw [List.getElem?_drop] at hq
    obtain ⟨b', o', e, h0, h1⟩ := h.2.2 _ q hq
    cases e
    have e1 : o + (i + 1 + n) * 2 = o + (i + 1) * 2 + n * 2 := by omega
    rw [e1] at h0 h1
    exact ⟨b, o + (i + 1) * 2, rfl, h0, h1⟩
theorem Prs.some {w : World} {a : Option Addr} {cap : Nat} {l : List Pr} (h : Prs w a cap l) (i : Nat) (hi : i < l.length) : ∃ b o, a = some ⟨b, o, none⟩ := by
  obtain ⟨b, o, e, _⟩ := h.2.2 i _ (List.getElem?_eq_getElem hi)
  exact ⟨b, o, e⟩

set_option maxRecDepth 100000 in
set_option maxHeartbeats 6400000 in
theorem high_any (N : Nat) : ∀ (a : Option Addr) (cap : Nat) (l : List Pr) (w : World), l.length ≤ N → Prs w a cap l → l.length ≤ 1000 →
    Calls Try.prog 48 #[.slice a l.length cap] w fun e w' => e = .returned (.int .i64 (hi l)) ∧ Below w.heap.size w w' := by
  induction N with
  | zero =>
    intro a cap l w hN h hl
    have ct := top_any a cap l w h
    have ht : topL l < 0 := by have := topL_lt l; omega
    rw [hi_neg l ht]
    obtain ⟨T, hT⟩ : ∃ T, topL l = T := ⟨_, rfl⟩
    rw [hT] at ct ht
    clear h
    go_enter Try.func48, Try.ntmps48
    go_wp2_with (go_at_call 16; ((with_reducible refine ct.mono ?_); clear ct; rintro e w1 ⟨rfl, hb⟩))
    go_ret
    exact ⟨rfl, hb⟩
  | succ N ih =>
    intro a cap l w hN h hl
    have ct := top_any a cap l w h
    by_cases ht : topL l < 0
    · rw [hi_neg l ht]
      obtain ⟨T, hT⟩ : ∃ T, topL l = T := ⟨_, rfl⟩
      rw [hT] at ct ht
      clear h
      go_enter Try.func48, Try.ntmps48
      go_wp2_with (go_at_call 16; ((with_reducible refine ct.mono ?_); clear ct; rintro e w1 ⟨rfl, hb⟩))
      go_ret
      exact ⟨rfl, hb⟩
    · have hB := topL_lt l
      obtain ⟨i, hi'⟩ : ∃ i : Nat, topL l = i := ⟨(topL l).toNat, by omega⟩
      rw [hi_at l i hi']
      rw [hi'] at ct
      have hil : i < l.length := by omega
      obtain ⟨b, o, rfl⟩ := h.some i hil
      obtain ⟨e1, P1⟩ := h.take i hil
      obtain ⟨aD, e2, P2, hD⟩ := h.drop i hil
      have c1 := fun W (hb : Below w.heap.size w W) => ih _ _ (l.take i) W (by omega) (P1.below hb) (by omega)
      have c2 := fun W (hb : Below w.heap.size w W) => ih _ _ (l.drop (i + 1)) W (by omega) (P2.below hb) (by omega)
      have l1 := hi_le _ (l.take i) (Nat.le_refl _)
      have l2 := hi_le _ (l.drop (i + 1)) (Nat.le_refl _)
      rw [e1] at c1 l1
      rw [e2] at c2 l2
      generalize hi (l.take i) = H1 at *
      generalize hi (l.drop (i + 1)) = H2 at *
      have hc1 := h.1
      have hc2 := h.2.1
      unfold maxLen at hc2
      have hmn : ¬ (i : Int) < 0 := by omega
      have hm0 : (0 : Int) ≤ (i : Int) := by omega
      have hii : (i : Int) ≤ (l.length : Int) := by omega
      have hii2 : (i : Int) + 1 ≤ (l.length : Int) := by omega
      have hw : IntKind.i64.wrap ((i : Int) + 1) = (i : Int) + 1 := by rw [IntKind.wrap_i64]; omega
      have h01 : (0 : Int) ≤ (i : Int) + 1 := by omega
      have hic : (i : Int) ≤ (cap : Int) := by omega
      have hic1 : (i : Int) + 1 ≤ (cap : Int) := by omega
      have hlc : (l.length : Int) ≤ (cap : Int) := by omega
      clear h P1 P2 ih ht hB hi' e1 e2
      have hcap0 : ¬ cap = 0 := by omega
      have hfin : IntKind.i64.wrap (1 + if H1 < H2 then (H2 : Int) else (H1 : Int)) = ((1 + max H1 H2 : Nat) : Int) := by rw [IntKind.wrap_i64]; split <;> omega
      rcases hD with ⟨hcc, rfl⟩ | ⟨hcc, rfl⟩
      · rw [show cap - (i + 1) = 0 by omega, show l.length - (i + 1) = 0 by omega] at c2
        have hlen0 : l.length - cap = 0 := by omega
        have hcc2 : i + 1 = cap := hcc.symm
        clear hcc
        go_enter Try.func48, Try.ntmps48
        go_wp2_with (go_at_call 16; ((with_reducible refine ct.mono ?_); clear ct; rintro e w1 ⟨rfl, hb0⟩))
        go_region_held3 (fun W => Below w.heap.size w W)
          (first | exact Below.drew (by assumption) | exact Below.trans (by assumption) (hb.mono (Below.size (by assumption))) | go_keep)
          (first
            | (go_at_call 48; ((with_reducible refine (c1 _ (by assumption)).mono ?_); rintro e w2 ⟨rfl, hb⟩))
            | (go_at_call 48; ((with_reducible refine (c2 _ (by assumption)).mono ?_); rintro e w2 ⟨rfl, hb⟩)))
        go_wp2
        all_goals go_ret
        all_goals exact ⟨rfl, by assumption⟩
      · go_enter Try.func48, Try.ntmps48
        go_wp2_with (go_at_call 16; ((with_reducible refine ct.mono ?_); clear ct; rintro e w1 ⟨rfl, hb0⟩))
        go_region_held3 (fun W => Below w.heap.size w W)
          (first | exact Below.drew (by assumption) | exact Below.trans (by assumption) (hb.mono (Below.size (by assumption))) | go_keep)
          (first
            | (go_at_call 48; ((with_reducible refine (c1 _ (by assumption)).mono ?_); rintro e w2 ⟨rfl, hb⟩))
            | (go_at_call 48; ((with_reducible refine (c2 _ (by assumption)).mono ?_); rintro e w2 ⟨rfl, hb⟩)))
        go_wp2
        all_goals go_ret
        all_goals exact ⟨rfl, by assumption⟩
end Go.Proofs.Ytbmlpdkbiipcmaa
