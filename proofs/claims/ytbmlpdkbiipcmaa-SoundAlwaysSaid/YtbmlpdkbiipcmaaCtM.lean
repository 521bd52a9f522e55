/- The plain mathematics of sorted pairs with a key less. -/
import Derived.Test.YtbmlpdkbiipcmaaPtM
namespace Go.Proofs.Ytbmlpdkbiipcmaa
open Go.RowKit
set_option linter.all false

def cutL (l : List Pr) (k : Int) : List Pr := l.filter (fun z => z.1 != k)
theorem cutL_mem {l : List Pr} {k : Int} {z : Pr} : z ∈ cutL l k ↔ z ∈ l ∧ z.1 ≠ k := by unfold cutL; rw [List.mem_filter]; simp
theorem cutL_nil (k : Int) : cutL [] k = [] := rfl
theorem cutL_srt {l : List Pr} (h : Srt l) (k : Int) : Srt (cutL l k) := h.filter _
theorem cutL_len (l : List Pr) (k : Int) : (cutL l k).length ≤ l.length := List.length_filter_le _ _
theorem cutL_all {l : List Pr} {k : Int} (h : ∀ z ∈ l, z.1 ≠ k) : cutL l k = l := List.filter_eq_self.2 (fun z hz => by simpa using h z hz)
theorem cutL_here {A B : List Pr} {q : Pr} (hs : Srt (A ++ q :: B)) : cutL (A ++ q :: B) q.1 = A ++ B := by
  obtain ⟨_, _, h1, h2⟩ := hs.parts
  have a : cutL A q.1 = A := cutL_all (fun z hz => by have := h1 z hz; omega)
  have b : cutL B q.1 = B := cutL_all (fun z hz => by have := h2 z hz; omega)
  unfold cutL at a b ⊢
  rw [List.filter_append, List.filter_cons_of_neg (by simp), a, b]
theorem cutL_left {A B : List Pr} {q : Pr} {k : Int} (hs : Srt (A ++ q :: B)) (hk : k < q.1) : cutL (A ++ q :: B) k = cutL A k ++ q :: B := by
  obtain ⟨_, _, h1, h2⟩ := hs.parts
  have b : cutL B k = B := cutL_all (fun z hz => by have := h2 z hz; omega)
  unfold cutL at b ⊢
  rw [List.filter_append, List.filter_cons_of_pos (by simp; omega), b]
theorem cutL_right {A B : List Pr} {q : Pr} {k : Int} (hs : Srt (A ++ q :: B)) (hk : q.1 < k) : cutL (A ++ q :: B) k = A ++ q :: cutL B k := by
  obtain ⟨_, _, h1, h2⟩ := hs.parts
  have a : cutL A k = A := cutL_all (fun z hz => by have := h1 z hz; omega)
  unfold cutL at a ⊢
  rw [List.filter_append, List.filter_cons_of_pos (by simp; omega), a]
theorem cutL_none {l : List Pr} {k : Int} (h : (findL l k).isSome = false) : cutL l k = l :=
  cutL_all (fun z hz e => by
    unfold findL at h
    rw [← Bool.not_eq_true, List.find?_isSome] at h
    exact h ⟨z, hz, by simpa using e⟩)
theorem cutL_with {l : List Pr} (hs : Srt l) {k : Int} (v : Int) (h : (findL l k).isSome = false) : cutL (withL l k v) k = l := by
  have hw := withL_is_srt l k v hs
  have hc := withL_cat hs k v
  have h1 := hc ▸ hw
  rw [hc, cutL_here (q := (k, v)) h1]
  have hne : ∀ z ∈ l, z.1 ≠ k := fun z hz e => by
    unfold findL at h
    rw [← Bool.not_eq_true, List.find?_isSome] at h
    exact h ⟨z, hz, by simpa using e⟩
  clear hw hc h1 h
  unfold loL hiL
  induction l with
  | nil => rfl
  | cons a l ih =>
    unfold Srt at hs
    rw [List.pairwise_cons] at hs
    have ha := hne a (List.mem_cons_self ..)
    by_cases h : a.1 < k
    · rw [List.filter_cons_of_pos (by simpa using h), List.filter_cons_of_neg (by simp; omega), List.cons_append, ih hs.2 (fun z hz => hne z (List.mem_cons_of_mem _ hz))]
    · have e1 : (a :: l).filter (fun z => decide (z.1 < k)) = [] := List.filter_eq_nil_iff.2 (fun z hz => by
        rcases List.mem_cons.1 hz with rfl | hz
        · simp; omega
        · have := hs.1 z hz; simp; omega)
      have e2 : (a :: l).filter (fun z => decide (k < z.1)) = a :: l := List.filter_eq_self.2 (fun z hz => by
        rcases List.mem_cons.1 hz with rfl | hz
        · simp; omega
        · have := hs.1 z hz; simp; omega)
      rw [e1, e2]; rfl

/-- Some keys less, one behind the other. -/
def cutsL (l : List Pr) (ps : List Pr) : List Pr := ps.foldl (fun acc q => cutL acc q.1) l
theorem cutsL_srt {l : List Pr} (ps : List Pr) : Srt l → Srt (cutsL l ps) := by
  induction ps generalizing l with
  | nil => exact id
  | cons q ps ih => intro h; exact ih (cutL_srt h q.1)
theorem cutsL_snoc (l ps : List Pr) (q : Pr) : cutsL l (ps ++ [q]) = cutL (cutsL l ps) q.1 := by unfold cutsL; rw [List.foldl_append]; rfl
theorem cutsL_len (l ps : List Pr) : (cutsL l ps).length ≤ l.length := by
  induction ps generalizing l with
  | nil => exact Nat.le_refl _
  | cons q ps ih => exact Nat.le_trans (ih (cutL l q.1)) (cutL_len l q.1)
theorem cutsL_mem {l ps : List Pr} {z : Pr} : z ∈ cutsL l ps ↔ z ∈ l ∧ ∀ q ∈ ps, z.1 ≠ q.1 := by
  induction ps generalizing l with
  | nil => simp [cutsL]
  | cons q ps ih =>
    have h : cutsL l (q :: ps) = cutsL (cutL l q.1) ps := rfl
    rw [h, ih, cutL_mem]
    simp only [List.mem_cons, forall_eq_or_imp, and_assoc]
/-- All keys, in an order turned at some place: while one goes along each one is there. -/
theorem turn_there {l : List Pr} (hs : Srt l) (k n : Nat) (q : Pr) (hq : (l.drop k ++ l.take k)[n]? = some q) : q ∈ cutsL l ((l.drop k ++ l.take k).take n) := by
  have hperm : (l.drop k ++ l.take k).Perm l := by
    have h := List.perm_append_comm (l₁ := l.drop k) (l₂ := l.take k)
    rwa [List.take_append_drop] at h
  have hnd : (l.drop k ++ l.take k).Pairwise (fun a b => a.1 ≠ b.1) := by
    refine (hperm.pairwise_iff (R := fun a b : Pr => a.1 ≠ b.1) (fun h => fun e => h e.symm)).2 ?_
    exact hs.imp (fun h => by omega)
  refine cutsL_mem.2 ⟨hperm.mem_iff.1 (List.mem_of_getElem? hq), fun z hz e => ?_⟩
  obtain ⟨j, hj⟩ := List.getElem?_of_mem hz
  have hjn : j < n := by have := (List.getElem?_eq_some_iff.1 hj).1; rw [List.length_take] at this; omega
  rw [List.getElem?_take_of_lt hjn] at hj
  obtain ⟨h1, rfl⟩ := List.getElem?_eq_some_iff.1 hj
  obtain ⟨h2, rfl⟩ := List.getElem?_eq_some_iff.1 hq
  exact List.pairwise_iff_getElem.1 hnd j n h1 h2 hjn e.symm
theorem turn_none {l : List Pr} (k : Nat) : cutsL l (l.drop k ++ l.take k) = [] := by
  rw [List.eq_nil_iff_forall_not_mem]
  intro z hz
  obtain ⟨h1, h2⟩ := cutsL_mem.1 hz
  rw [← List.take_append_drop k l] at h1
  refine h2 z ?_ rfl
  rcases List.mem_append.1 h1 with h | h
  · exact List.mem_append_right _ h
  · exact List.mem_append_left _ h
theorem cutL_exact {l : List Pr} (hs : Srt l) {q : Pr} (hq : q ∈ l) : (cutL l q.1).length + 1 = l.length := by
  obtain ⟨A, B, rfl⟩ := List.append_of_mem hq
  rw [cutL_here hs]; simp; omega

/-- Two rows of pairs, the one's keys below the other's: joined at the tops. -/
theorem Srt.app {A B : List Pr} (ha : Srt A) (hb : Srt B) (h : ∀ y ∈ A, ∀ z ∈ B, y.1 < z.1) : Srt (A ++ B) := by
  unfold Srt at ha hb ⊢
  exact List.pairwise_append.2 ⟨ha, hb, h⟩
theorem Srt.two {A B : List Pr} (h : Srt (A ++ B)) : Srt A ∧ Srt B ∧ ∀ y ∈ A, ∀ z ∈ B, y.1 < z.1 := by
  unfold Srt at h ⊢
  exact List.pairwise_append.1 h
end Go.Proofs.Ytbmlpdkbiipcmaa
