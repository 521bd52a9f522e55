/- What sound.May tells of the treap of sorted pairs, of a node over two treaps, of a node whose sides are changed. -/
import Derived.Test.YtbmlpdkbiipcmaaSoM
namespace Go.Proofs.Ytbmlpdkbiipcmaa
open Go.RowKit
set_option linter.all false

def ndL (L : List It) (t : Int) : Nd := ⟨valL L t 0, valL L t 1, valL L t 2, valL L t 3, valL L t 4, valL L t 5⟩
def ndZ (L : List It) (t : Int) : Nd := if t = 0 then Nd.z else ndL L t
def lastK (l : List Pr) (d : Int) : Int := (l.getLast?.map (·.1)).getD d
theorem lastK_nil (d : Int) : lastK [] d = d := rfl
theorem lastK_cons (A : List Pr) (q : Pr) (B : List Pr) (d : Int) : lastK (A ++ q :: B) d = lastK B q.1 := by
  unfold lastK
  rw [List.getLast?_append, List.getLast?_cons]
  cases h : B.getLast? <;> simp
theorem lastK_mem {l : List Pr} (h : l ≠ []) (d : Int) : ∃ z ∈ l, lastK l d = z.1 := by
  unfold lastK
  rw [List.getLast?_eq_some_getLast h]
  exact ⟨l.getLast h, List.getLast_mem h, rfl⟩
/-- The check behind a treap that may be. -/
def aft (σ : Cst) (l : List Pr) : Cst := ⟨σ.m - l.length, σ.b || !l.isEmpty, lastK l σ.l⟩
theorem aft_nil (σ : Cst) : aft σ [] = σ := by
  obtain ⟨m, b, l⟩ := σ
  simp [aft, lastK_nil]
theorem aft_cons (σ : Cst) (A : List Pr) (q : Pr) (B : List Pr) : aft ⟨σ.m - 1 - A.length, true, q.1⟩ B = aft σ (A ++ q :: B) := by
  unfold aft
  rw [lastK_cons, List.length_append, List.length_cons]
  have e1 : σ.m - 1 - A.length - B.length = σ.m - (A.length + (B.length + 1)) := by omega
  have e2 : (true || !B.isEmpty) = (σ.b || !(A ++ q :: B).isEmpty) := by cases A <;> simp
  dsimp only
  rw [e1, e2]
def Up (σ : Cst) (l : List Pr) : Prop := ∀ z ∈ l, σ.b = true → σ.l < z.1

theorem hng_nil (f : Int → Cst → Nd × Bool × Cst) (t k : Int) (σ : Cst) : hngF f t k 0 σ = (Nd.z, true, σ) := if_pos rfl
theorem hng_node (f : Int → Cst → Nd × Bool × Cst) (t k c : Int) (σ : Cst) (h0 : c ≠ 0) (h : c < t) : hngF f t k c σ = ((f c σ).1, (f c σ).2.1 && abv k (f c σ).1.k, (f c σ).2.2) := by
  unfold hngF
  rw [if_neg h0, if_neg (by omega)]

theorem zsize {L : List It} {t : Int} {l : List Pr} (h : Tree L t l) : (ndZ L t).s = (l.length : Int) ∧ (ndZ L t).h = (hi l : Int) := by
  unfold ndZ
  rcases h.says with ⟨rfl, rfl, -⟩ | ⟨i, q, x, y, ht, hi', hq, hk, e0, e1, e2, e3, e4, e5, -⟩
  · rw [if_pos rfl]
    exact ⟨rfl, by rw [hi_neg [] (by rw [topL_nil]; omega)]; rfl⟩
  · rw [if_neg (by omega)]
    exact ⟨e4, e5⟩

theorem wsum (a b : Nat) (h : a + b ≤ 1000) : wrap64 (wrap64 ((a : Int) + (b : Int)) + 1) = ((a + b + 1 : Nat) : Int) := by unfold wrap64; omega
theorem wmax (a b : Nat) (h : a ≤ 1000) (h' : b ≤ 1000) : wrap64 (max (a : Int) (b : Int) + 1) = ((1 + max a b : Nat) : Int) := by unfold wrap64; omega
/-- A node over two treaps, in its order, above what hangs on it: as its size and its height say. -/
theorem frm_over {L : List It} {N : Nat} {t k v x y s h : Int} {A B : List Pr} {σ : Cst} (hi' : itemAt L t = some (1, [k, v, x, y, s, h]))
    (hA : hngF (frm L N) t k x ⟨σ.m - 1, σ.b, σ.l⟩ = (ndZ L x, true, aft ⟨σ.m - 1, σ.b, σ.l⟩ A)) (hB : hngF (frm L N) t k y ⟨σ.m - 1 - A.length, true, k⟩ = (ndZ L y, true, aft ⟨σ.m - 1 - A.length, true, k⟩ B))
    (tA : Tree L x A) (tB : Tree L y B) (hs : Srt (A ++ (k, v) :: B)) (hm : A.length + B.length + 1 ≤ σ.m) (hl : A.length + B.length ≤ 1000) (hu : Up σ (A ++ (k, v) :: B)) :
    frm L (N + 1) t σ = (⟨k, v, x, y, s, h⟩, (s == ((A.length + B.length + 1 : Nat) : Int)) && (h == ((1 + max (hi A) (hi B) : Nat) : Int)), aft σ (A ++ (k, v) :: B)) := by
  obtain ⟨n0, e0, e1, e2, e3, e4, e5⟩ := node_says hi'
  rw [frm, if_pos ⟨n0, by omega⟩, e0, e2, e3, hA]
  dsimp only
  have em : (aft ⟨σ.m - 1, σ.b, σ.l⟩ A).m = σ.m - 1 - A.length := rfl
  rw [em, hB]
  have hf : ¬ ((aft ⟨σ.m - 1, σ.b, σ.l⟩ A).b = true ∧ valL L t 0 ≤ (aft ⟨σ.m - 1, σ.b, σ.l⟩ A).l) := by
    rw [e0]
    rintro ⟨hb, hk⟩
    by_cases hA0 : A = []
    · subst hA0
      rw [aft_nil] at hb hk
      have := hu (k, v) (by simp) hb
      dsimp only at this hk
      omega
    · obtain ⟨z, hz, ez⟩ := lastK_mem hA0 σ.l
      have hk' : k ≤ lastK A σ.l := hk
      have := (hs.parts).2.2.1 z hz
      dsimp only at this
      omega
  unfold stpF
  rw [if_pos ⟨rfl, hf⟩, if_pos rfl, e0, e1, e2, e3, e4, e5, (zsize tA).1, (zsize tB).1, (zsize tA).2, (zsize tB).2]
  have h1 := hi_le _ A (Nat.le_refl _)
  have h2 := hi_le _ B (Nat.le_refl _)
  have w1 : wrap64 (wrap64 ((A.length : Int) + (B.length : Int)) + 1) = ((A.length + B.length + 1 : Nat) : Int) := wsum _ _ hl
  have w2 : wrap64 (max (hi A : Int) (hi B : Int) + 1) = ((1 + max (hi A) (hi B) : Nat) : Int) := wmax _ _ (Nat.le_trans h1 (Nat.le_trans (Nat.le_add_right _ _) hl)) (Nat.le_trans h2 (Nat.le_trans (Nat.le_add_left _ _) hl))
  rw [w1, w2]
  have ea := aft_cons σ A (k, v) B
  dsimp only at ea
  rw [ea]

theorem frm_tree {L : List It} : ∀ (N : Nat) (t : Int) (l : List Pr) (σ : Cst), Tree L t l → Srt l → l ≠ [] → t ≤ N → l.length ≤ σ.m → l.length ≤ 1000 → Up σ l → frm L N t σ = (ndL L t, true, aft σ l) := by
  intro N
  induction N with
  | zero =>
    intro t l σ hT hs hl ht _ _ _
    rcases hT.says with ⟨_, e, _⟩ | ⟨_, _, _, _, h1, _⟩
    · exact absurd e hl
    · omega
  | succ N ih =>
    intro t l σ hT hs hl ht hm hl1 hu
    rcases hT.apart hs with ⟨_, e⟩ | ⟨x, y, A, B, q, rfl, ap⟩
    · exact absurd e hl
    obtain ⟨k, v⟩ := q
    have hp := hs.parts
    rw [List.length_append, List.length_cons] at hm hl1
    have hg : ∀ (c : Int) (C : List Pr) (τ : Cst), Tree L c C → Srt C → c < t → (∀ z ∈ C, abv k z.1 = true) → C.length ≤ τ.m → C.length ≤ 1000 → Up τ C → hngF (frm L N) t k c τ = (ndZ L c, true, aft τ C) := by
      intro c C τ tC sC hc hab hm' hl' hu'
      rcases tC.says with ⟨rfl, rfl, _⟩ | ⟨i, q', x', y', h1, hi1, hq', _, e0, _⟩
      · rw [hng_nil, aft_nil]; rfl
      · rw [hng_node _ _ _ _ _ (by omega) hc, ih c C τ tC sC (fun e => by subst e; simp at hi1) (by omega) hm' hl' hu']
        have hk : abv k (ndL L c).k = true := by
          show abv k (valL L c 0) = true
          rw [e0]
          exact hab q' (List.mem_of_getElem? hq')
        dsimp only
        rw [hk]
        unfold ndZ
        rw [if_neg (by omega)]
        rfl
    have hA := hg x A ⟨σ.m - 1, σ.b, σ.l⟩ ap.tx hp.1 ap.hx (fun z hz => ap.top z (by simp [hz])) (by show A.length ≤ σ.m - 1; omega) (by omega) (fun z hz hb => hu z (by simp [hz]) hb)
    have hB := hg y B ⟨σ.m - 1 - A.length, true, k⟩ ap.ty hp.2.1 ap.hy (fun z hz => ap.top z (by simp [hz])) (by show B.length ≤ σ.m - 1 - A.length; omega) (by omega) (fun z hz _ => hp.2.2.2 z hz)
    have e := frm_over ap.item hA hB ap.tx ap.ty hs (by omega) (by omega) hu
    rw [e]
    obtain ⟨n0, e0, e1, e2, e3, e4, e5⟩ := node_says ap.item
    unfold ndL
    rw [e0, e1, e2, e3, e4, e5]
    simp

theorem ne0 {c : Int} (h : 1 ≤ c) : c ≠ 0 := by omega
theorem ltN {c t : Int} {N : Nat} (h : c < t) (h2 : t ≤ (N : Int) + 1) : c ≤ (N : Int) := by omega
/-- hung over a treap that is below. -/
theorem hng_tree {L : List It} {N : Nat} {t k c : Int} {C : List Pr} {τ : Cst} (tC : Tree L c C) (sC : Srt C) (hN : t ≤ (N : Int) + 1) (hc : c < t) (hm' : C.length ≤ τ.m) (hl' : C.length ≤ 1000) (hu' : Up τ C) :
    (C = [] ∧ hngF (frm L N) t k c τ = (Nd.z, true, τ)) ∨ (C ≠ [] ∧ hngF (frm L N) t k c τ = (ndL L c, abv k (valL L c 0), aft τ C)) := by
  rcases tC.says with ⟨rfl, rfl, _⟩ | ⟨i, q', x', y', h1, hi1, hq', _, e0, _⟩
  · exact .inl ⟨rfl, hng_nil _ _ _ _⟩
  · have hne : C ≠ [] := fun e => by subst e; simp at hi1
    refine .inr ⟨hne, ?_⟩
    rw [hng_node _ _ _ _ _ (ne0 h1) hc, frm_tree N c C τ tC sC hne (ltN hc hN) hm' hl' hu']
    dsimp only
    rw [Bool.true_and]
    rfl
theorem hng_below {L : List It} {N : Nat} {t k c : Int} {C : List Pr} {τ : Cst} (tC : Tree L c C) (sC : Srt C) (hN : t ≤ (N : Int) + 1) (hc : c < t) (hab : ∀ z ∈ C, abv k z.1 = true) (hm' : C.length ≤ τ.m) (hl' : C.length ≤ 1000) (hu' : Up τ C) :
    hngF (frm L N) t k c τ = (ndZ L c, true, aft τ C) := by
  rcases hng_tree (k := k) tC sC hN hc hm' hl' hu' with ⟨rfl, e⟩ | ⟨hne, e⟩
  · rw [e, aft_nil]
    rcases tC.says with ⟨rfl, _⟩ | ⟨_, _, _, _, _, hi1, _⟩
    · rfl
    · simp at hi1
  · rcases tC.says with ⟨_, e1, _⟩ | ⟨i, q', x', y', h1, hi1, hq', _, e0, _⟩
    · exact absurd e1 hne
    · rw [e, e0, hab q' (List.mem_of_getElem? hq')]
      unfold ndZ
      rw [if_neg (ne0 h1)]

/-- A treap of which some key is not above what the check came by. -/
theorem frm_low {L : List It} : ∀ (N : Nat) (t : Int) (l : List Pr) (σ : Cst), Tree L t l → Srt l → t ≤ N → l.length ≤ σ.m → l.length ≤ 1000 → σ.b = true → (∃ z ∈ l, z.1 ≤ σ.l) → (frm L N t σ).2.1 = false := by
  intro N
  induction N with
  | zero => intro t l σ _ _ _ _ _ _ _; rfl
  | succ N ih =>
    intro t l σ hT hs ht hm hl1 hb hz
    rcases hT.apart hs with ⟨_, e⟩ | ⟨x, y, A, B, q, rfl, ap⟩
    · subst e; obtain ⟨z, hz, _⟩ := hz; simp at hz
    obtain ⟨k, v⟩ := q
    have hp := hs.parts
    rw [List.length_append, List.length_cons] at hm hl1
    obtain ⟨n0, e0, e1, e2, e3, e4, e5⟩ := node_says ap.item
    have hk : k ≤ σ.l ∨ ∃ z ∈ A, z.1 ≤ σ.l := by
      obtain ⟨z, hz, hzl⟩ := hz
      rcases List.mem_append.1 hz with hz | hz
      · exact .inr ⟨z, hz, hzl⟩
      · rcases List.mem_cons.1 hz with rfl | hz
        · exact .inl hzl
        · have := hp.2.2.2 z hz; dsimp only at this; exact .inl (by omega)
    rw [frm, if_pos ⟨n0, by omega⟩, e0, e2, e3]
    by_cases hA0 : A = []
    · subst hA0
      obtain rfl : x = 0 := by
        rcases ap.tx.says with ⟨e, _⟩ | ⟨_, _, _, _, _, hi1, _⟩
        · exact e
        · simp at hi1
      rcases hk with hk | ⟨z, hz, _⟩
      · rw [hng_nil]
        unfold stpF
        rw [if_neg (fun hh => hh.2 ⟨hb, by rw [e0]; exact hk⟩)]
      · simp at hz
    · have hzA : ∃ z ∈ A, z.1 ≤ σ.l := by
        rcases hk with hk | h
        · obtain ⟨z, hz⟩ := List.exists_mem_of_ne_nil A hA0
          have := hp.2.2.1 z hz
          dsimp only at this
          exact ⟨z, hz, by omega⟩
        · exact h
      have hx0 : x ≠ 0 := by
        rcases ap.tx.says with ⟨_, e, _⟩ | ⟨_, _, _, _, h1, _⟩
        · exact absurd e hA0
        · exact ne0 h1
      have hf := ih x A ⟨σ.m - 1, σ.b, σ.l⟩ ap.tx hp.1 (by have := ap.hx; omega) (by show A.length ≤ σ.m - 1; omega) (by omega) hb hzA
      rw [hng_node _ _ _ _ _ hx0 ap.hx]
      unfold stpF
      rw [hf]
      rw [if_neg (fun hh => by cases hh.1)]

def σ0 : Cst := ⟨1200, false, 0⟩
theorem up0 (l : List Pr) : Up σ0 l := fun _ _ hb => by cases hb
theorem may_at {L : List It} {t : Int} (h : 1 ≤ t) : ∃ N : Nat, t = (N : Int) + 1 ∧ mayL L t = (frm L (N + 1) t σ0).2.1 :=
  ⟨(t - 1).toNat, by omega, by unfold mayL; rw [if_neg (by omega), show t.toNat = (t - 1).toNat + 1 by omega]; rfl⟩

/-- The treap of sorted pairs may be. -/
theorem may_tree {L : List It} {t : Int} {l : List Pr} (hT : Tree L t l) (hs : Srt l) (hl : l.length ≤ 1000) : mayL L t = true := by
  rcases hT.says with ⟨rfl, -, -⟩ | ⟨_, _, _, _, h1, hi1, _⟩
  · exact if_pos rfl
  · obtain ⟨N, hN, e⟩ := may_at (L := L) h1
    rw [e, frm_tree (N + 1) t l σ0 hT hs (fun e => by subst e; simp at hi1) (by omega) (by show l.length ≤ 1200; omega) hl (up0 l)]
/-- What is no node may not be. -/
theorem may_none {L : List It} {t : Int} (h : t ≠ 0) (hk : kindL L t ≠ 1) : mayL L t = false := by
  unfold mayL
  rw [if_neg h]
  cases t.toNat with
  | zero => rfl
  | succ N => rw [frm, if_neg (fun hh => hk hh.1)]

section
variable {L : List It} {t k v x y s h : Int} {A B : List Pr}
/-- A node over two treaps in its order, above both: as its size and height say. -/
theorem may_over (hi' : itemAt L t = some (1, [k, v, x, y, s, h])) (tA : Tree L x A) (tB : Tree L y B) (hx : x < t) (hy : y < t) (hs : Srt (A ++ (k, v) :: B)) (hl : A.length + B.length ≤ 1000) (hab : ∀ z ∈ A ++ B, abv k z.1 = true) :
    mayL L t = ((s == ((A.length + B.length + 1 : Nat) : Int)) && (h == ((1 + max (hi A) (hi B) : Nat) : Int))) := by
  obtain ⟨N, hN, e⟩ := may_at (L := L) (itemAt_range hi').1
  have hp := hs.parts
  rw [e, frm_over (σ := σ0) hi' (hng_below tA hp.1 (by omega) hx (fun z hz => hab z (by simp [hz])) (by show A.length ≤ 1199; omega) (by omega) (fun _ _ hb => by cases hb))
    (hng_below tB hp.2.1 (by omega) hy (fun z hz => hab z (by simp [hz])) (by show B.length ≤ 1199 - A.length; omega) (by omega) (fun z hz _ => hp.2.2.2 z hz)) tA tB hs (by show _ ≤ 1200; omega) hl (up0 _)]
/-- A node that is not above what hangs left on it. -/
theorem may_not (hi' : itemAt L t = some (1, [k, v, x, y, s, h])) (tA : Tree L x A) (hx : x < t) (sA : Srt A) (hl : A.length ≤ 1000) (hne : A ≠ []) (hab : abv k (valL L x 0) = false) : mayL L t = false := by
  obtain ⟨N, hN, e⟩ := may_at (L := L) (itemAt_range hi').1
  obtain ⟨n0, e0, e1, e2, e3, e4, e5⟩ := node_says hi'
  rw [e, frm, if_pos ⟨n0, by decide⟩, e0, e2, e3]
  rcases hng_tree (k := k) (τ := ⟨σ0.m - 1, σ0.b, σ0.l⟩) tA sA (show t ≤ (N : Int) + 1 by omega) hx (by show A.length ≤ 1199; omega) hl (fun _ _ hb => by cases hb) with ⟨e', _⟩ | ⟨_, e'⟩
  · exact absurd e' hne
  · rw [e', hab]
    unfold stpF
    rw [if_neg (fun hh => by cases hh.1)]
/-- A node whose left side has greater keys. -/
theorem may_turned (hi' : itemAt L t = some (1, [k, v, x, y, s, h])) (tA : Tree L x A) (tB : Tree L y B) (hx : x < t) (hy : y < t) (sA : Srt A) (sB : Srt B) (hl : A.length + B.length ≤ 1000) (hA : ∀ z ∈ A, k < z.1) (hB : ∀ z ∈ B, z.1 < k) (hne : A ≠ [] ∨ B ≠ []) : mayL L t = false := by
  obtain ⟨N, hN, e⟩ := may_at (L := L) (itemAt_range hi').1
  obtain ⟨n0, e0, e1, e2, e3, e4, e5⟩ := node_says hi'
  rw [e, frm, if_pos ⟨n0, by decide⟩, e0, e2, e3]
  rcases hng_tree (k := k) (τ := ⟨σ0.m - 1, σ0.b, σ0.l⟩) tA sA (show t ≤ (N : Int) + 1 by omega) hx (by show A.length ≤ 1199; omega) (by omega) (fun _ _ hb => by cases hb) with ⟨eA, e'⟩ | ⟨hA0, e'⟩
  · have hB0 : B ≠ [] := hne.elim (fun h => absurd eA h) id
    rw [e']
    unfold stpF
    dsimp only
    rw [if_pos ⟨rfl, fun hh => by cases hh.1⟩]
    have hy0 : y ≠ 0 := by
      rcases tB.says with ⟨_, e, _⟩ | ⟨_, _, _, _, h1, _⟩
      · exact absurd e hB0
      · exact ne0 h1
    have hf := frm_low N y B ⟨σ0.m - 1, true, k⟩ tB sB (by omega) (by show B.length ≤ 1199; omega) (by omega) rfl (by
      obtain ⟨z, hz⟩ := List.exists_mem_of_ne_nil B hB0
      exact ⟨z, hz, by have := hB z hz; show z.1 ≤ k; omega⟩)
    rw [hng_node _ _ _ _ _ hy0 hy]
    dsimp only
    rw [hf, if_neg (by simp)]
  · rw [e']
    unfold stpF
    rw [if_neg]
    rintro ⟨_, h2⟩
    refine h2 ⟨?_, ?_⟩
    · show (σ0.b || !A.isEmpty) = true
      cases A with
      | nil => exact absurd rfl hA0
      | cons _ _ => rfl
    · obtain ⟨z, hz, ez⟩ := lastK_mem hA0 σ0.l
      show valL L t 0 ≤ lastK A σ0.l
      rw [e0, ez]
      exact Int.le_of_lt (hA z hz)
end
end Go.Proofs.Ytbmlpdkbiipcmaa
