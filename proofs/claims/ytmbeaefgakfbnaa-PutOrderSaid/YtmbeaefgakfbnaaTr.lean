/- The plain mathematics of treaps: which pair is on top of sorted pairs; parts, joins, a key more, a key less. -/
import Derived.Test.YtmbeaefgakfbnaaNLook
import Derived.Test.YtmbeaefgakfbnaaNLookM
namespace Go.Proofs.Ytmbeaefgakfbnaa
open Go.RowKit
set_option linter.all false

def keyAt (l : List Pr) (j : Nat) : Int := (l.getD j (0, 0)).1
theorem keyAt_of {l : List Pr} {j : Nat} {q : Pr} (h : l[j]? = some q) : keyAt l j = q.1 := by unfold keyAt; simp [List.getD, h]
theorem keyAt_lt {l : List Pr} (hs : Srt l) {i j : Nat} (hij : i < j) (hj : j < l.length) : keyAt l i < keyAt l j := by
  have h := hs.at i j l[i] l[j] hij (List.getElem?_eq_getElem (by omega)) (List.getElem?_eq_getElem hj)
  rw [keyAt_of (List.getElem?_eq_getElem (show i < l.length by omega)), keyAt_of (List.getElem?_eq_getElem hj)]
  exact h
theorem keyAt_ne {l : List Pr} (hs : Srt l) {i j : Nat} (hij : i ≠ j) (hi : i < l.length) (hj : j < l.length) : keyAt l i ≠ keyAt l j := by
  rcases Nat.lt_or_ge i j with h | h
  · have := keyAt_lt hs h hj; omega
  · have := keyAt_lt hs (show j < i by omega) hi; omega

theorem bestF_top {l : List Pr} (hs : Srt l) : ∀ n, 0 < n → n ≤ l.length → ∃ b : Nat, bestF l n = b ∧ b < n ∧ ∀ j, j < n → j ≠ b → abv (keyAt l b) (keyAt l j) = true := by
  intro n
  induction n with
  | zero => intro h; omega
  | succ n ih =>
    intro _ hn
    by_cases h0 : n = 0
    · subst h0
      exact ⟨0, rfl, by omega, fun j hj hne => by omega⟩
    · obtain ⟨b, hb, hbn, hall⟩ := ih (by omega) (by omega)
      unfold bestF
      rw [hb, if_neg (by omega), Int.toNat_natCast]
      by_cases ha : abv (keyAt l n) (keyAt l b) = true
      · refine ⟨n, if_pos ha, by omega, fun j hj hne => ?_⟩
        by_cases hjb : j = b
        · subst hjb; exact ha
        · exact abv_trans _ _ _ ha (hall j (by omega) hjb)
      · refine ⟨b, if_neg ha, by omega, fun j hj hne => ?_⟩
        by_cases hjn : j = n
        · subst hjn
          have := abv_or (keyAt l b) (keyAt l j) (keyAt_ne hs (by omega) (by omega) (by omega))
          rw [this]; simpa using ha
        · exact hall j (by omega) hne
theorem abv_asym {a b : Int} (h : abv a b = true) (k : abv b a = true) : False := by
  have := abv_trans a b a h k
  rw [abv_self] at this
  cases this
theorem abv_of_not {a b : Int} (h : ¬ abv a b = true) (hne : a ≠ b) : abv b a = true := by
  rw [abv_or b a (fun e => hne e.symm)]
  simpa using h

/-- Of pairs among which one is above all others that one is on top. -/
theorem top_app {A B : List Pr} {q : Pr} (hs : Srt (A ++ q :: B)) (h : ∀ z ∈ A ++ B, abv q.1 z.1 = true) : topL (A ++ q :: B) = (A.length : Int) := by
  have hlen : (A ++ q :: B).length = A.length + 1 + B.length := by simp; omega
  obtain ⟨b, hb, hbn, hall⟩ := bestF_top hs (A ++ q :: B).length (by omega) (Nat.le_refl _)
  unfold topL
  rw [hb]
  by_cases hne : b = A.length
  · rw [hne]
  · exfalso
    have hq : (A ++ q :: B)[A.length]? = some q := by simp
    have h1 := hall A.length (by omega) (fun e => hne e.symm)
    rw [keyAt_of hq] at h1
    obtain ⟨z, hz⟩ : ∃ z, (A ++ q :: B)[b]? = some z := ⟨_, List.getElem?_eq_getElem hbn⟩
    rw [keyAt_of hz] at h1
    have hzm : z ∈ A ++ B := by
      rcases Nat.lt_or_ge b A.length with hlt | hge
      · rw [List.getElem?_append_left hlt] at hz
        exact List.mem_append_left _ (List.mem_of_getElem? hz)
      · rw [List.getElem?_append_right hge, show b - A.length = (b - A.length - 1) + 1 by omega, List.getElem?_cons_succ] at hz
        exact List.mem_append_right _ (List.mem_of_getElem? hz)
    exact abv_asym (h z hzm) h1
theorem hi_app {A B : List Pr} {q : Pr} (hs : Srt (A ++ q :: B)) (h : ∀ z ∈ A ++ B, abv q.1 z.1 = true) : hi (A ++ q :: B) = 1 + max (hi A) (hi B) := by
  rw [hi_at _ A.length (top_app hs h)]
  simp
theorem Tree.cat {L : List It} {t x y : Int} {A B : List Pr} {q : Pr} (hs : Srt (A ++ q :: B)) (h : ∀ z ∈ A ++ B, abv q.1 z.1 = true) {n m : Int}
    (e : itemAt L t = some (1, [q.1, q.2, x, y, n, m])) (hn : n = A.length + B.length + 1) (hm : m = max (hi A : Int) (hi B : Int) + 1) (hx : x < t) (hy : y < t) (hx0 : 0 ≤ x) (hy0 : 0 ≤ y) (tx : Tree L x A) (ty : Tree L y B) : Tree L t (A ++ q :: B) := by
  refine .node t x y _ A.length q (top_app hs h) (by simp) ?_ hx hy hx0 hy0 (by simpa using tx) (by simpa using ty)
  rw [e, hn, hm, hi_app hs h]
  have e1 : (A.length : Int) + B.length + 1 = ((A ++ q :: B).length : Int) := by simp; omega
  have e2 : max (hi A : Int) (hi B : Int) + 1 = ((1 + max (hi A) (hi B) : Nat) : Int) := by omega
  rw [e1, e2]

theorem Srt.cat {A B : List Pr} {q : Pr} (ha : Srt A) (hb : Srt B) (h1 : ∀ z ∈ A, z.1 < q.1) (h2 : ∀ z ∈ B, q.1 < z.1) : Srt (A ++ q :: B) := by
  unfold Srt at ha hb ⊢
  rw [List.pairwise_append, List.pairwise_cons]
  refine ⟨ha, ⟨h2, hb⟩, fun a hA b hB => ?_⟩
  rcases List.mem_cons.1 hB with rfl | hB
  · exact h1 a hA
  · have := h1 a hA; have := h2 b hB; omega
theorem Srt.parts {A B : List Pr} {q : Pr} (hs : Srt (A ++ q :: B)) : Srt A ∧ Srt B ∧ (∀ z ∈ A, z.1 < q.1) ∧ (∀ z ∈ B, q.1 < z.1) := by
  unfold Srt at hs ⊢
  rw [List.pairwise_append, List.pairwise_cons] at hs
  exact ⟨hs.1, hs.2.1.2, fun z hz => hs.2.2 z hz q (List.mem_cons_self ..), hs.2.1.1⟩

/-- A treap taken apart at its top. -/
structure Apart (L : List It) (t x y : Int) (A B : List Pr) (q : Pr) : Prop where
  srt : Srt (A ++ q :: B)
  top : ∀ z ∈ A ++ B, abv q.1 z.1 = true
  item : itemAt L t = some (1, [q.1, q.2, x, y, ((A.length + B.length + 1 : Nat) : Int), ((1 + max (hi A) (hi B) : Nat) : Int)])
  hx : x < t
  hy : y < t
  x0 : 0 ≤ x
  y0 : 0 ≤ y
  tx : Tree L x A
  ty : Tree L y B
theorem Tree.apart {L : List It} {t : Int} {l : List Pr} (h : Tree L t l) (hs : Srt l) : (t = 0 ∧ l = []) ∨ ∃ x y A B q, l = A ++ q :: B ∧ Apart L t x y A B q := by
  rcases h.parts with ⟨rfl, rfl⟩ | ⟨i, q, x, y, h1, h2, h3, h4, h5, h6, h7, h8, h9⟩
  · exact .inl ⟨rfl, rfl⟩
  · have e := split_at h2
    have hi' := (List.getElem?_eq_some_iff.1 h2).1
    obtain ⟨b, hb, hbn, hall⟩ := bestF_top hs l.length (by omega) (Nat.le_refl _)
    have hbi : b = i := by have : topL l = (b : Int) := hb; omega
    subst hbi
    have htop : ∀ z ∈ l.take b ++ l.drop (b + 1), abv q.1 z.1 = true := by
      intro z hz
      rcases List.mem_append.1 hz with hz | hz
      · obtain ⟨j, hj⟩ := List.getElem?_of_mem hz
        have hjb : j < b := by have := (List.getElem?_eq_some_iff.1 hj).1; rw [List.length_take] at this; omega
        rw [List.getElem?_take_of_lt hjb] at hj
        have := hall j (by omega) (by omega)
        rwa [keyAt_of h2, keyAt_of hj] at this
      · obtain ⟨j, hj⟩ := List.getElem?_of_mem hz
        rw [List.getElem?_drop] at hj
        have hjl := (List.getElem?_eq_some_iff.1 hj).1
        have := hall (b + 1 + j) (by omega) (by omega)
        rwa [keyAt_of h2, keyAt_of hj] at this
    refine .inr ⟨x, y, l.take b, l.drop (b + 1), q, e, ⟨by rw [← e]; exact hs, htop, ?_, h4, h5, h6, h7, h8, h9⟩⟩
    rw [h3, ← hi_at l b h1]
    have : (l.take b).length + (l.drop (b + 1)).length + 1 = l.length := by rw [List.length_take, List.length_drop]; omega
    rw [this]
theorem Apart.tree {L : List It} {t x y : Int} {A B : List Pr} {q : Pr} (h : Apart L t x y A B q) : Tree L t (A ++ q :: B) :=
  Tree.cat h.srt h.top h.item (by omega) (by omega) h.hx h.hy h.x0 h.y0 h.tx h.ty
theorem Apart.app {L : List It} {t x y : Int} {A B : List Pr} {q : Pr} (h : Apart L t x y A B q) (M : List It) : Apart (L ++ M) t x y A B q :=
  ⟨h.srt, h.top, itemAt_app h.item M, h.hx, h.hy, h.x0, h.y0, h.tx.app M, h.ty.app M⟩

/-! ### Keys below, keys above -/

def loL (l : List Pr) (k : Int) : List Pr := l.filter (fun z => decide (z.1 < k))
def hiL (l : List Pr) (k : Int) : List Pr := l.filter (fun z => decide (k < z.1))
theorem loL_mem {l : List Pr} {k : Int} {z : Pr} : z ∈ loL l k ↔ z ∈ l ∧ z.1 < k := by unfold loL; rw [List.mem_filter, decide_eq_true_iff]
theorem hiL_mem {l : List Pr} {k : Int} {z : Pr} : z ∈ hiL l k ↔ z ∈ l ∧ k < z.1 := by unfold hiL; rw [List.mem_filter, decide_eq_true_iff]
theorem loL_srt {l : List Pr} (h : Srt l) (k : Int) : Srt (loL l k) := h.filter _
theorem hiL_srt {l : List Pr} (h : Srt l) (k : Int) : Srt (hiL l k) := h.filter _
theorem loL_nil (k : Int) : loL [] k = [] := rfl
theorem hiL_nil (k : Int) : hiL [] k = [] := rfl
theorem loL_all {l : List Pr} {k : Int} (h : ∀ z ∈ l, z.1 < k) : loL l k = l := List.filter_eq_self.2 (fun z hz => by simpa using h z hz)
theorem loL_none {l : List Pr} {k : Int} (h : ∀ z ∈ l, k ≤ z.1) : loL l k = [] := List.filter_eq_nil_iff.2 (fun z hz => by have := h z hz; simp; omega)
theorem hiL_all {l : List Pr} {k : Int} (h : ∀ z ∈ l, k < z.1) : hiL l k = l := List.filter_eq_self.2 (fun z hz => by simpa using h z hz)
theorem hiL_none {l : List Pr} {k : Int} (h : ∀ z ∈ l, z.1 ≤ k) : hiL l k = [] := List.filter_eq_nil_iff.2 (fun z hz => by have := h z hz; simp; omega)
theorem withL_cat {l : List Pr} (h : Srt l) (k v : Int) : withL l k v = loL l k ++ (k, v) :: hiL l k := by
  rw [withL_srt l k v h]; unfold loL hiL; simp

section
variable {A B : List Pr} {q : Pr} {k : Int}
theorem loL_left (hs : Srt (A ++ q :: B)) (hk : k ≤ q.1) : loL (A ++ q :: B) k = loL A k := by
  obtain ⟨_, _, h1, h2⟩ := hs.parts
  unfold loL
  rw [List.filter_append, List.filter_cons_of_neg (by simp; omega)]
  have : B.filter (fun z => decide (z.1 < k)) = [] := loL_none (fun z hz => by have := h2 z hz; omega)
  rw [this, List.append_nil]
theorem hiL_left (hs : Srt (A ++ q :: B)) (hk : k < q.1) : hiL (A ++ q :: B) k = hiL A k ++ q :: B := by
  obtain ⟨_, _, h1, h2⟩ := hs.parts
  unfold hiL
  rw [List.filter_append, List.filter_cons_of_pos (by simpa using hk)]
  have : B.filter (fun z => decide (k < z.1)) = B := hiL_all (fun z hz => by have := h2 z hz; omega)
  rw [this]
theorem loL_right (hs : Srt (A ++ q :: B)) (hk : q.1 < k) : loL (A ++ q :: B) k = A ++ q :: loL B k := by
  obtain ⟨_, _, h1, h2⟩ := hs.parts
  unfold loL
  rw [List.filter_append, List.filter_cons_of_pos (by simpa using hk)]
  have : A.filter (fun z => decide (z.1 < k)) = A := loL_all (fun z hz => by have := h1 z hz; omega)
  rw [this]
theorem hiL_right (hs : Srt (A ++ q :: B)) (hk : q.1 ≤ k) : hiL (A ++ q :: B) k = hiL B k := by
  obtain ⟨_, _, h1, h2⟩ := hs.parts
  unfold hiL
  rw [List.filter_append, List.filter_cons_of_neg (by simp; omega)]
  have : A.filter (fun z => decide (k < z.1)) = [] := hiL_none (fun z hz => by have := h1 z hz; omega)
  rw [this, List.nil_append]
theorem loL_here (hs : Srt (A ++ q :: B)) : loL (A ++ q :: B) q.1 = A := by
  rw [loL_left hs (Int.le_refl _)]; exact loL_all (hs.parts.2.2.1)
theorem hiL_here (hs : Srt (A ++ q :: B)) : hiL (A ++ q :: B) q.1 = B := by
  rw [hiL_right hs (Int.le_refl _)]; exact hiL_all (hs.parts.2.2.2)
theorem withL_left (hs : Srt (A ++ q :: B)) (v : Int) (hk : k < q.1) : withL (A ++ q :: B) k v = withL A k v ++ q :: B := by
  rw [withL_cat hs, withL_cat hs.parts.1, loL_left hs (by omega), hiL_left hs hk]; simp
theorem withL_right (hs : Srt (A ++ q :: B)) (v : Int) (hk : q.1 < k) : withL (A ++ q :: B) k v = A ++ q :: withL B k v := by
  rw [withL_cat hs, withL_cat hs.parts.2.1, loL_right hs hk, hiL_right hs (by omega)]; simp
theorem withL_here (hs : Srt (A ++ q :: B)) (v : Int) : withL (A ++ q :: B) q.1 v = A ++ (q.1, v) :: B := by
  rw [withL_cat hs, loL_here hs, hiL_here hs]
end
theorem withL_nil (k v : Int) : withL [] k v = [(k, v)] := by rw [withL_cat Srt.nil]; rfl
theorem findL_iff {l : List Pr} (hs : Srt l) (k : Int) : (findL l k).isSome = true ↔ ∃ z ∈ l, z.1 = k := by
  unfold findL
  rw [List.find?_isSome]
  simp

/-- A key that is above the top of a treap is not in it. -/
theorem not_in {A B : List Pr} {q : Pr} {k : Int} (htop : ∀ z ∈ A ++ B, abv q.1 z.1 = true) (hk : abv k q.1 = true) : ∀ z ∈ A ++ q :: B, z.1 ≠ k := by
  intro z hz e
  subst e
  rcases List.mem_append.1 hz with hz | hz
  · exact abv_asym hk (htop z (List.mem_append_left _ hz))
  · rcases List.mem_cons.1 hz with rfl | hz
    · rw [abv_self] at hk; cases hk
    · exact abv_asym hk (htop z (List.mem_append_right _ hz))
/-- .. and it is above all of it. -/
theorem all_below {A B : List Pr} {q : Pr} {k : Int} (htop : ∀ z ∈ A ++ B, abv q.1 z.1 = true) (hk : abv k q.1 = true) : ∀ z ∈ A ++ q :: B, abv k z.1 = true := by
  intro z hz
  rcases List.mem_append.1 hz with hz | hz
  · exact abv_trans _ _ _ hk (htop z (List.mem_append_left _ hz))
  · rcases List.mem_cons.1 hz with rfl | hz
    · exact hk
    · exact abv_trans _ _ _ hk (htop z (List.mem_append_right _ hz))
end Go.Proofs.Ytmbeaefgakfbnaa
