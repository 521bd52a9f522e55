/- The plain mathematics of looking into sorted pairs: what the top pair parts. -/
import Derived.Test.YtmbeaefgakfbnaaNSrt
namespace Go.Proofs.Ytmbeaefgakfbnaa
set_option linter.all false

theorem split_at {l : List Pr} {i : Nat} {q : Pr} (h : l[i]? = some q) : l = l.take i ++ (q :: l.drop (i + 1)) := by
  obtain ⟨hi, hq⟩ := List.getElem?_eq_some_iff.1 h
  conv => lhs; rw [← List.take_append_drop i l, List.drop_eq_getElem_cons hi, hq]

theorem Srt.below {l : List Pr} (h : Srt l) {i : Nat} {q : Pr} (hq : l[i]? = some q) : ∀ x ∈ l.take i, x.1 < q.1 := by
  intro x hx
  obtain ⟨j, hj⟩ := List.getElem?_of_mem hx
  have hji : j < i := by
    have := (List.getElem?_eq_some_iff.1 hj).1
    rw [List.length_take] at this
    omega
  rw [List.getElem?_take_of_lt hji] at hj
  exact h.at j i x q hji hj hq
theorem Srt.above {l : List Pr} (h : Srt l) {i : Nat} {q : Pr} (hq : l[i]? = some q) : ∀ x ∈ l.drop (i + 1), q.1 < x.1 := by
  intro x hx
  obtain ⟨j, hj⟩ := List.getElem?_of_mem hx
  rw [List.getElem?_drop] at hj
  exact h.at i (i + 1 + j) q x (by omega) hq hj

/-! ### Which pair has a key -/

def findL (l : List Pr) (key : Int) : Option Pr := l.find? (fun q => decide (q.1 = key))
theorem findL_nil (key : Int) : findL [] key = none := rfl
theorem findL_none {l : List Pr} {key : Int} (h : ∀ x ∈ l, x.1 ≠ key) : findL l key = none := by
  unfold findL
  rw [List.find?_eq_none]
  intro x hx
  simpa using h x hx
theorem findL_left {l : List Pr} (h : Srt l) {i : Nat} {q : Pr} (hq : l[i]? = some q) {key : Int} (hk : key < q.1) : findL l key = findL (l.take i) key := by
  have e := split_at hq
  have hn : findL (q :: l.drop (i + 1)) key = none := findL_none (fun x hx => by
    rcases List.mem_cons.1 hx with rfl | hx
    · omega
    · have := h.above hq x hx; omega)
  conv => lhs; rw [e]
  unfold findL at hn ⊢
  rw [List.find?_append, hn, Option.or_none]
theorem findL_right {l : List Pr} (h : Srt l) {i : Nat} {q : Pr} (hq : l[i]? = some q) {key : Int} (hk : q.1 < key) : findL l key = findL (l.drop (i + 1)) key := by
  have e := split_at hq
  have hn : findL (l.take i) key = none := findL_none (fun x hx => by have := h.below hq x hx; omega)
  conv => lhs; rw [e]
  unfold findL at hn ⊢
  rw [List.find?_append, hn, Option.none_or, List.find?_cons_of_neg (by simp; omega)]
theorem findL_here {l : List Pr} (h : Srt l) {i : Nat} {q : Pr} (hq : l[i]? = some q) : findL l q.1 = some q := by
  have e := split_at hq
  have hn : findL (l.take i) q.1 = none := findL_none (fun x hx => by have := h.below hq x hx; omega)
  conv => lhs; rw [e]
  unfold findL at hn ⊢
  rw [List.find?_append, hn, Option.none_or, List.find?_cons_of_pos (by simp)]

/-! ### How many have a key below -/

def belowL (l : List Pr) (key : Int) : Nat := (l.filter (fun q => decide (q.1 < key))).length
theorem belowL_nil (key : Int) : belowL [] key = 0 := rfl
theorem belowL_le (l : List Pr) (key : Int) : belowL l key ≤ l.length := List.length_filter_le _ _
theorem belowL_left {l : List Pr} (h : Srt l) {i : Nat} {q : Pr} (hq : l[i]? = some q) {key : Int} (hk : key ≤ q.1) : belowL l key = belowL (l.take i) key := by
  have e := split_at hq
  have hn : (q :: l.drop (i + 1)).filter (fun q => decide (q.1 < key)) = [] := List.filter_eq_nil_iff.2 (fun x hx => by
    rcases List.mem_cons.1 hx with rfl | hx
    · simp; omega
    · have := h.above hq x hx; simp; omega)
  unfold belowL
  conv => lhs; rw [e, List.filter_append, hn, List.append_nil]
theorem belowL_all {l : List Pr} {key : Int} (h : ∀ x ∈ l, x.1 < key) : belowL l key = l.length := by
  unfold belowL
  rw [List.filter_eq_self.2 (fun x hx => by simpa using h x hx)]
theorem belowL_right {l : List Pr} (h : Srt l) {i : Nat} {q : Pr} (hq : l[i]? = some q) {key : Int} (hk : q.1 < key) : belowL l key = i + 1 + belowL (l.drop (i + 1)) key := by
  have e := split_at hq
  have hi := (List.getElem?_eq_some_iff.1 hq).1
  have h1 : belowL (l.take i) key = i := by rw [belowL_all (fun x hx => by have := h.below hq x hx; omega), List.length_take]; omega
  unfold belowL at h1 ⊢
  conv => lhs; rw [e, List.filter_append, List.length_append, h1, List.filter_cons_of_pos (by simpa using hk)]
  simp; omega
theorem belowL_here {l : List Pr} (h : Srt l) {i : Nat} {q : Pr} (hq : l[i]? = some q) : belowL l q.1 = i := by
  have hi := (List.getElem?_eq_some_iff.1 hq).1
  rw [belowL_left h hq (Int.le_refl _), belowL_all (fun x hx => h.below hq x hx), List.length_take]
  omega

/-! ### Which pair is the n-th -/

theorem nth_left {l : List Pr} {i n : Nat} (hn : n < i) : l[n]? = (l.take i)[n]? := (List.getElem?_take_of_lt hn).symm
theorem nth_right {l : List Pr} {i n : Nat} (hn : i < n) : l[n]? = (l.drop (i + 1))[n - (i + 1)]? := by
  rw [List.getElem?_drop]
  congr 1
  omega
end Go.Proofs.Ytmbeaefgakfbnaa
