/- Rows of pairs cut at a place. -/
import Derived.Test.YtellkcppgfghhaaNHigh
import Derived.Test.YtellkcppgfghhaaNForm
namespace Go.Proofs.Ytellkcppgfghhaa
open Go.RowKit
set_option linter.all false

theorem prs_take {w : World} {a : Option Addr} {cap : Nat} {l : List Pr} (h : Prs w a cap l) (i : Nat) (hi : i ≤ l.length) : (l.take i).length = i ∧ Prs w a cap (l.take i) := by
  have hl : (l.take i).length = i := by rw [List.length_take]; omega
  refine ⟨hl, by rw [hl]; have := h.1; omega, h.2.1, fun n q hq => ?_⟩
  have hn : n < i := by
    have := (List.getElem?_eq_some_iff.1 hq).1
    omega
  rw [List.getElem?_take_of_lt hn] at hq
  exact h.2.2 n q hq
theorem prs_drop {w : World} {b o : Nat} {cap : Nat} {l : List Pr} (h : Prs w (some ⟨b, o, none⟩) cap l) (i : Nat) (hi : i ≤ l.length) :
    ∃ aD, (l.drop i).length = l.length - i ∧ Prs w aD (cap - i) (l.drop i) ∧ ((cap = i ∧ aD = some ⟨b, o, none⟩) ∨ (¬ cap = i ∧ aD = some ⟨b, o + i * 2, none⟩)) := by
  have hl : (l.drop i).length = l.length - i := by rw [List.length_drop]
  have h1 := h.1
  have h2 := h.2.1
  by_cases hc : cap = i
  · refine ⟨_, hl, ⟨by rw [hl]; omega, by omega, fun n q hq => ?_⟩, .inl ⟨hc, rfl⟩⟩
    have := (List.getElem?_eq_some_iff.1 hq).1
    omega
  · refine ⟨_, hl, ⟨by rw [hl]; omega, by omega, fun n q hq => ?_⟩, .inr ⟨hc, rfl⟩⟩
    rw [List.getElem?_drop] at hq
    obtain ⟨b', o', e, h0, h1⟩ := h.2.2 _ q hq
    cases e
    have e1 : o + (i + n) * 2 = o + i * 2 + n * 2 := by omega
    rw [e1] at h0 h1
    exact ⟨b, o + i * 2, rfl, h0, h1⟩
end Go.Proofs.Ytellkcppgfghhaa
