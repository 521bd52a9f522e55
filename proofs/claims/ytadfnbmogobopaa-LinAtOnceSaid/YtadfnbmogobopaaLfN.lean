/- Plain mathematics of a leaf: an operation done twice, what each key has behind it. No condition: lemmas. -/
import Derived.Test.YtadfnbmogobopaaLfM
namespace Go.Proofs.Ytadfnbmogobopaa
open Go.RowKit
set_option linter.all false

theorem Srt.one {l : List Pr} (h : Srt l) {a b : Pr} (ha : a ∈ l) (hb : b ∈ l) (e : a.1 = b.1) : a = b := by
  obtain ⟨i, hi⟩ := List.getElem?_of_mem ha
  obtain ⟨j, hj⟩ := List.getElem?_of_mem hb
  rcases Nat.lt_trichotomy i j with h1 | h1 | h1
  · have := h.at i j a b h1 hi hj; omega
  · subst h1; rw [hi] at hj; exact Option.some.inj hj
  · have := h.at j i b a h1 hj hi; omega
theorem hadL_mem {l : List Pr} (h : Srt l) {k v : Int} (hm : (k, v) ∈ l) : hadL l k = (true, k, v) := by
  cases hf : l.find? (fun z => z.1 == k) with
  | none =>
    have := List.find?_eq_none.1 hf _ hm
    simp at this
  | some q =>
    have h1 : q.1 = k := by simpa using List.find?_some hf
    have h2 := h.one (List.mem_of_find?_eq_some hf) hm h1
    unfold hadL
    rw [hf, h2]
theorem hadL_not {l : List Pr} {k : Int} (hm : ∀ z ∈ l, z.1 ≠ k) : hadL l k = (false, 0, 0) := by
  have hf : l.find? (fun z => z.1 == k) = none := List.find?_eq_none.2 (fun z hz => by simpa using hm z hz)
  unfold hadL
  rw [hf]
theorem hadL_some {l : List Pr} {k : Int} (h : (hadL l k).1 = true) : ∃ v, (k, v) ∈ l ∧ hadL l k = (true, k, v) := by
  unfold hadL at h ⊢
  cases hf : l.find? (fun z => z.1 == k) with
  | none => rw [hf] at h; cases h
  | some q =>
    have h1 : q.1 = k := by simpa using List.find?_some hf
    have h2 := List.mem_of_find?_eq_some hf
    obtain ⟨q0, q1⟩ := q
    dsimp only at h1
    subst h1
    exact ⟨q1, h2, rfl⟩
theorem hadL_none {l : List Pr} {k : Int} (h : (hadL l k).1 = false) : ∀ z ∈ l, z.1 ≠ k := by
  intro z hz e
  unfold hadL at h
  cases hf : l.find? (fun z => z.1 == k) with
  | none =>
    have := List.find?_eq_none.1 hf z hz
    simp [e] at this
  | some q => rw [hf] at h; cases h
theorem withL_has (l : List Pr) (h : Srt l) (k v : Int) : (k, v) ∈ withL l k v := by
  rw [withL_srt l k v h]; simp
theorem withL_in {l : List Pr} (h : Srt l) {k v : Int} {z : Pr} : z ∈ withL l k v ↔ z = (k, v) ∨ (z ∈ l ∧ z.1 ≠ k) := by
  rw [withL_srt l k v h]
  simp only [List.mem_append, List.mem_filter, List.mem_singleton, decide_eq_true_eq]
  constructor
  · rintro ((⟨h1, h2⟩ | h1) | ⟨h1, h2⟩)
    · exact .inr ⟨h1, by omega⟩
    · exact .inl h1
    · exact .inr ⟨h1, by omega⟩
  · rintro (h1 | ⟨h1, h2⟩)
    · exact .inl (.inr h1)
    · rcases Int.lt_or_lt_of_ne h2 with h3 | h3
      · exact .inl (.inl ⟨h1, h3⟩)
      · exact .inr ⟨h1, h3⟩
theorem filter_lt_lt (l : List Pr) (k : Int) : (l.filter (fun x => decide (x.1 < k))).filter (fun x => decide (x.1 < k)) = l.filter (fun x => decide (x.1 < k)) := List.filter_eq_self.2 (fun z hz => (List.mem_filter.1 hz).2)
theorem filter_gt_gt (l : List Pr) (k : Int) : (l.filter (fun x => decide (k < x.1))).filter (fun x => decide (k < x.1)) = l.filter (fun x => decide (k < x.1)) := List.filter_eq_self.2 (fun z hz => (List.mem_filter.1 hz).2)
theorem withL_twice (l : List Pr) (h : Srt l) (k v : Int) : withL (withL l k v) k v = withL l k v := by
  rw [withL_srt _ k v (withL_is_srt l k v h)]
  conv => rhs; rw [withL_srt l k v h]
  rw [withL_srt l k v h]
  simp only [List.filter_append, filter_lt_lt, filter_gt_gt]
  have e1 : ([(k, v)] : List Pr).filter (fun x => decide (x.1 < k)) = [] := by simp
  have e2 : ([(k, v)] : List Pr).filter (fun x => decide (k < x.1)) = [] := by simp
  have e3 : (l.filter (fun x => decide (k < x.1))).filter (fun x => decide (x.1 < k)) = [] := List.filter_eq_nil_iff.2 (fun z hz => by have := (List.mem_filter.1 hz).2; simp at this ⊢; omega)
  have e4 : (l.filter (fun x => decide (x.1 < k))).filter (fun x => decide (k < x.1)) = [] := List.filter_eq_nil_iff.2 (fun z hz => by have := (List.mem_filter.1 hz).2; simp at this ⊢; omega)
  rw [e1, e2, e3, e4]
  simp
theorem cutL_twice (l : List Pr) (k : Int) : cutL (cutL l k) k = cutL l k := cutL_all (fun z hz => (cutL_mem.1 hz).2)

section
variable {l : List Pr} {c : Int} (hs : Srt l) (ho : okOp c) (k v : Int)
include hs ho
theorem doP_srt : Srt (doP l c k v) := by
  unfold doP
  split
  · exact hs
  split
  · exact withL_is_srt l k v hs
  split
  · split
    · exact hs
    · exact withL_is_srt l k v hs
  split
  · exact cutL_srt hs k
  · exact hs
theorem withL_len : (withL l k v).length ≤ l.length + 1 := by
  have e := with_at hs (lo_pl hs k) v
  have h1 := bh_ge (plN l k) (hasB l k (plN l k))
  have h2 := (lo_pl hs k).le
  rw [← e]
  simp only [List.length_append, List.length_take, List.length_drop, List.length_singleton]
  omega
theorem doP_len : (doP l c k v).length ≤ l.length + 1 := by
  have h1 := withL_len hs ho k v
  have h2 := cutL_len l k
  unfold doP
  split
  · omega
  split
  · exact h1
  split
  · split
    · omega
    · exact h1
  split
  · omega
  · omega
/-- What the key has behind an update. -/
theorem had_doP (h3 : c ≤ 3) : hadL (doP l c k v) k = (if c = 3 then (false, 0, 0) else if c = 2 then (if (hadL l k).1 = true then hadL l k else (true, k, v)) else (true, k, v)) := by
  by_cases e3 : c = 3
  · rw [doP_cut hs ho k v e3, if_pos e3]
    exact hadL_not (fun z hz => (cutL_mem.1 hz).2)
  rw [if_neg e3]
  by_cases e2 : c = 2
  · rw [doP_add hs ho k v e2, if_pos e2]
    split
    · rfl
    · exact hadL_mem (withL_is_srt l k v hs) (withL_has l hs k v)
  · rw [doP_put hs ho k v (by have := ho.1; omega), if_neg e2]
    exact hadL_mem (withL_is_srt l k v hs) (withL_has l hs k v)
theorem doP_twice (h3 : c ≤ 3) : doP (doP l c k v) c k v = doP l c k v := by
  have hs2 := doP_srt hs ho k v
  have hh := had_doP hs ho k v h3
  by_cases e3 : c = 3
  · rw [doP_cut hs2 ho k v e3, doP_cut hs ho k v e3, cutL_twice]
  by_cases e2 : c = 2
  · rw [doP_add hs2 ho k v e2, hh, if_neg e3, if_pos e2, if_pos]
    split
    · assumption
    · rfl
  · rw [doP_put hs2 ho k v (by have := ho.1; omega), doP_put hs ho k v (by have := ho.1; omega), withL_twice l hs]
theorem had_ok (h3 : c ≤ 3) : (hadL (doP l c k v) k).1 = (c != 3) := by
  rw [had_doP hs ho k v h3]
  by_cases e3 : c = 3
  · simp [e3]
  · rw [if_neg e3]
    split
    · split
      · simp_all
      · simp [e3]
    · simp [e3]
end
end Go.Proofs.Ytadfnbmogobopaa
