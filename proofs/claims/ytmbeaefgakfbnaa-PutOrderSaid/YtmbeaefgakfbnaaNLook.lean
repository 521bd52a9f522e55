/- A treap of pairs, parted; what its node says. -/
import Derived.Test.YtmbeaefgakfbnaaNTree
import Derived.Test.YtmbeaefgakfbnaaNLookM
namespace Go.Proofs.Ytmbeaefgakfbnaa
open Go.RowKit
set_option linter.all false

/-- A treap of some pairs is nothing, or a node with its two halves. -/
theorem Tree.parts {L : List It} {t : Int} {l : List Pr} (h : Tree L t l) : (t = 0 ∧ l = []) ∨
    ∃ (i : Nat) (q : Pr) (x y : Int), topL l = i ∧ l[i]? = some q ∧ itemAt L t = some (1, [q.1, q.2, x, y, (l.length : Int), (hi l : Int)]) ∧ x < t ∧ y < t ∧ 0 ≤ x ∧ 0 ≤ y ∧ Tree L x (l.take i) ∧ Tree L y (l.drop (i + 1)) := by
  cases h with
  | nil => exact .inl ⟨rfl, rfl⟩
  | node _ x y _ i q h1 h2 h3 h4 h5 h6 h7 h8 h9 => exact .inr ⟨i, q, x, y, h1, h2, h3, h4, h5, h6, h7, h8, h9⟩

/-- What stands at a treap's number: nothing, or a node that says its pair, its halves, its size and height. -/
theorem Tree.says {L : List It} {t : Int} {l : List Pr} (h : Tree L t l) :
    (t = 0 ∧ l = [] ∧ kindL L t = 0) ∨
    ∃ (i : Nat) (q : Pr) (x y : Int), 1 ≤ t ∧ i < l.length ∧ l[i]? = some q ∧ kindL L t = 1 ∧ valL L t 0 = q.1 ∧ valL L t 1 = q.2 ∧ valL L t 2 = x ∧ valL L t 3 = y ∧ valL L t 4 = (l.length : Int) ∧ valL L t 5 = (hi l : Int) ∧
      x < t ∧ y < t ∧ 0 ≤ x ∧ 0 ≤ y ∧ Tree L x (l.take i) ∧ Tree L y (l.drop (i + 1)) := by
  rcases h.parts with ⟨rfl, rfl⟩ | ⟨i, q, x, y, h1, h2, h3, h4, h5, h6, h7, h8, h9⟩
  · exact .inl ⟨rfl, rfl, kindL_zero L 0 (by omega)⟩
  · obtain ⟨n0, n1, n2, n3, n4, n5, n6⟩ := node_says h3
    exact .inr ⟨i, q, x, y, (itemAt_range h3).1, (List.getElem?_eq_some_iff.1 h2).1, h2, n0, n1, n2, n3, n4, n5, n6, h4, h5, h6, h7, h8, h9⟩

/-- What hangs on a record, by the document's words: a number that is not lower counts as nothing. -/
def downL (L : List It) (t c : Int) : Int := if c < t then c else 0
theorem downL_of {L : List It} {t c : Int} (h : c < t) : downL L t c = c := if_pos h
/-- What is a node has a number among the items. -/
theorem kind_one_range {L : List It} {t : Int} (h : kindL L t = 1) : 1 ≤ t ∧ t ≤ L.length := by
  unfold kindL at h
  cases hx : itemAt L t with
  | none => rw [hx] at h; simp at h
  | some x => exact itemAt_range hx
theorem downL_lt {L : List It} {t c : Int} (h : kindL L t = 1) : (downL L t c).toNat < t.toNat := by
  have := kind_one_range h
  unfold downL
  split <;> omega
end Go.Proofs.Ytmbeaefgakfbnaa
