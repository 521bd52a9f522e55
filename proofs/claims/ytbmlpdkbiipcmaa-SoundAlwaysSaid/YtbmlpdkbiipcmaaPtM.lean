/- The mathematics of sorted pairs with a key more: what is found, how many there are. -/
import Derived.Test.YtbmlpdkbiipcmaaPtG
namespace Go.Proofs.Ytbmlpdkbiipcmaa
open Go.RowKit
set_option linter.all false

theorem findL_mem {l : List Pr} (hs : Srt l) {q : Pr} (hq : q ∈ l) : findL l q.1 = some q := by
  obtain ⟨i, hi⟩ := List.getElem?_of_mem hq
  exact findL_here hs hi
theorem findL_is {l : List Pr} {k : Int} {q : Pr} (h : findL l k = some q) : q ∈ l ∧ q.1 = k := by
  unfold findL at h
  exact ⟨List.mem_of_find?_eq_some h, by have := List.find?_some h; simpa using this⟩
theorem mem_withL {l : List Pr} (hs : Srt l) (k v : Int) (z : Pr) : z ∈ withL l k v ↔ z = (k, v) ∨ (z ∈ l ∧ z.1 ≠ k) := by
  rw [withL_cat hs, List.mem_append, List.mem_cons, loL_mem, hiL_mem]
  constructor
  · rintro (⟨h, h2⟩ | h | ⟨h, h2⟩)
    · exact .inr ⟨h, by omega⟩
    · exact .inl h
    · exact .inr ⟨h, by omega⟩
  · rintro (h | ⟨h, h2⟩)
    · exact .inr (.inl h)
    · by_cases h3 : z.1 < k
      · exact .inl ⟨h, h3⟩
      · exact .inr (.inr ⟨h, by omega⟩)
theorem findL_with {l : List Pr} (hs : Srt l) (k v : Int) : findL (withL l k v) k = some (k, v) :=
  findL_mem (q := (k, v)) (withL_is_srt l k v hs) ((mem_withL hs k v _).2 (.inl rfl))
theorem findL_other {l : List Pr} (hs : Srt l) (k v : Int) {key : Int} (h : key ≠ k) : findL (withL l k v) key = findL l key := by
  cases he : findL l key with
  | none =>
    refine findL_none (fun z hz e => ?_)
    subst e
    rcases (mem_withL hs k v z).1 hz with rfl | ⟨hz, _⟩
    · exact h rfl
    · rw [findL_mem hs hz] at he; cases he
  | some q =>
    obtain ⟨hq, rfl⟩ := findL_is he
    exact findL_mem (withL_is_srt l k v hs) ((mem_withL hs k v _).2 (.inr ⟨hq, h⟩))
theorem withL_twice {l : List Pr} (hs : Srt l) (k v v' : Int) : withL (withL l k v) k v' = withL l k v' := by
  have h1 := withL_is_srt l k v hs
  rw [withL_cat h1, withL_cat hs k v']
  rw [withL_cat hs k v] at h1 ⊢
  rw [loL_here (q := (k, v)) h1, hiL_here (q := (k, v)) h1]
theorem lohi_all {l : List Pr} {k : Int} (h : ∀ z ∈ l, z.1 ≠ k) : (loL l k).length + (hiL l k).length = l.length := by
  unfold loL hiL
  induction l with
  | nil => simp
  | cons z l ih =>
    have ih := ih (fun y hy => h y (List.mem_cons_of_mem _ hy))
    have hz := h z (List.mem_cons_self ..)
    rw [List.filter_cons, List.filter_cons]
    by_cases h1 : z.1 < k
    · rw [if_pos (by simpa using h1), if_neg (by simp; omega)]; simp; omega
    · rw [if_neg (by simpa using h1), if_pos (by simp; omega)]; simp; omega
theorem withL_count {l : List Pr} (hs : Srt l) (k v : Int) (b : Bool) (h : (findL l k).isSome = b) : (withL l k v).length = l.length + if b then 0 else 1 := by
  subst h
  cases he : findL l k with
  | none =>
    have hn : ∀ z ∈ l, z.1 ≠ k := fun z hz e => by subst e; rw [findL_mem hs hz] at he; cases he
    have := lohi_all hn
    rw [withL_cat hs]
    simp; omega
  | some q =>
    obtain ⟨hq, rfl⟩ := findL_is he
    obtain ⟨A, B, rfl⟩ := List.append_of_mem hq
    rw [withL_here hs]
    simp
theorem withL_le {l : List Pr} (hs : Srt l) (k v : Int) : (withL l k v).length ≤ l.length + 1 := withL_len l k v hs
end Go.Proofs.Ytbmlpdkbiipcmaa
