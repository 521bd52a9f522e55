/- The plain mathematics of treaps of pairs; contract of osierref1.High. -/
import Derived.Test.YtbaeemonkgllhaaNTop
import Derived.Deep.RegionHeld3
namespace Go.Proofs.Ytbaeemonkgllhaa
open Go.RowKit
set_option linter.all false

theorem take_lt (l : List Pr) (h : ¬ topL l < 0) : (l.take (topL l).toNat).length < l.length := by
  have := topL_lt l
  rw [List.length_take]; omega
theorem drop_lt (l : List Pr) (h : ¬ topL l < 0) : (l.drop ((topL l).toNat + 1)).length < l.length := by
  have := topL_lt l
  rw [List.length_drop]; omega

/-- The height of the treap of some pairs. -/
def hi (l : List Pr) : Nat :=
  if h : topL l < 0 then 0 else 1 + max (hi (l.take (topL l).toNat)) (hi (l.drop ((topL l).toNat + 1)))
termination_by l.length
decreasing_by
  · exact take_lt l h
  · exact drop_lt l h

theorem hi_neg (l : List Pr) (h : topL l < 0) : hi l = 0 := by rw [hi, dif_pos h]
theorem hi_at (l : List Pr) (i : Nat) (h : topL l = i) : hi l = 1 + max (hi (l.take i)) (hi (l.drop (i + 1))) := by
  rw [hi, dif_neg (by omega), h]; rfl
theorem hi_le : ∀ (n : Nat) (l : List Pr), l.length ≤ n → hi l ≤ l.length := by
  intro n
  induction n with
  | zero => intro l h; rw [hi_neg l (by have := topL_lt l; omega)]; exact Nat.zero_le _
  | succ n ih =>
    intro l h
    by_cases ht : topL l < 0
    · rw [hi_neg l ht]; exact Nat.zero_le _
    · have hb := topL_lt l
      obtain ⟨i, hi'⟩ : ∃ i : Nat, topL l = i := ⟨(topL l).toNat, by omega⟩
      rw [hi_at l i hi']
      have h1 := ih (l.take i) (by rw [List.length_take]; omega)
      have h2 := ih (l.drop (i + 1)) (by rw [List.length_drop]; omega)
      rw [List.length_take] at h1
      rw [List.length_drop] at h2
      omega
theorem topL_pos (l : List Pr) (h : topL l < 0) : l = [] := by
  have := topL_lt l
  exact List.eq_nil_of_length_eq_zero (by omega)

/-- The two halves as slices. -/
theorem Prs.take {w : World} {a : Option Addr} {cap : Nat} {l : List Pr} (h : Prs w a cap l) (i : Nat) (hi : i < l.length) : (l.take i).length = i ∧ Prs w a cap (l.take i) := by
  have hl : (l.take i).length = i := by rw [List.length_take]; omega
  refine ⟨hl, by rw [hl]; have := h.1; omega, h.2.1, fun n q hq => ?_⟩
  have hn : n < i := by
    have := (List.getElem?_eq_some_iff.1 hq).1
    omega
  rw [List.getElem?_take_of_lt hn] at hq
  exact h.2.2 n q hq
theorem Prs.drop {w : World} {b o : Nat} {cap : Nat} {l : List Pr} (h : Prs w (some ⟨b, o, none⟩) cap l) (i : Nat) (hi : i < l.length) :
    ∃ aD, (l.drop (i + 1)).length = l.length - (i + 1) ∧ Prs w aD (cap - (i + 1)) (l.drop (i + 1)) ∧ ((cap = i + 1 ∧ aD = some ⟨b, o, none⟩) ∨ (¬ cap = i + 1 ∧ aD = some ⟨b, o + (i + 1) * 2, none⟩)) := by
  have hl : (l.drop (i + 1)).length = l.length - (i + 1) := by rw [List.length_drop]
  have h1 := h.1
  have h2 := h.2.1
  by_cases hc : cap = i + 1
  · refine ⟨_, hl, ⟨by rw [hl]; omega, by omega, fun n q hq => ?_⟩, .inl ⟨hc, rfl⟩⟩
    have := (List.getElem?_eq_some_iff.1 hq).1
    omega
  · refine ⟨_, hl, ⟨by rw [hl]; omega, by omega, fun n q hq => ?_⟩, .inr ⟨hc, rfl⟩⟩
    rw [List.getElem?_drop] at hq
    obtain ⟨b', o', e, h0, h1⟩ := h.2.2 _ q hq
    cases e
    have e1 : o + (i + 1 + n) * 2 = o + (i + 1) * 2 + n * 2 := by omega
    rw [e1] at h0 h1
    exact ⟨b, o + (i + 1) * 2, rfl, h0, h1⟩
theorem Prs.some {w : World} {a : Option Addr} {cap : Nat} {l : List Pr} (h : Prs w a cap l) (i : Nat) (hi : i < l.length) : ∃ b o, a = some ⟨b, o, none⟩ := by
  obtain ⟨b, o, e, _⟩ := h.2.2 i _ (List.getElem?_eq_getElem hi)
  exact ⟨b, o, e⟩

end Go.Proofs.Ytbaeemonkgllhaa
