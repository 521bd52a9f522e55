/- A search for an order: what can still be done (plain mathematics); a beginning of a history. No condition: definitions and lemmas. What a search that remembers knows: which calls are named, what the map has of their keys; how much it may remember (plain mathematics). No condition: definitions and lemmas. -/
import Derived.Test.YtadfnbmogobopaaOrM
namespace Go.Proofs.Ytadfnbmogobopaa
set_option linter.all false

/-- One that must be is left. -/
def lft (L : List ClD) (S : Nat → Bool) : Prop := ∃ i, i < L.length ∧ S i = false ∧ must (L.getD i zCl)
/-- A call can be next. -/
structure Nx (L : List ClD) (S : Nat → Bool) (i : Nat) : Prop where
  lt : i < L.length
  nw : S i = false
  no : ¬ rfd (L.getD i zCl)
  bf : ∀ d, d < L.length → S d = false → ¬ rfd (L.getD d zCl) → ¬ bef (L.getD d zCl) (L.getD i zCl)
def tlq (m : List Pr) (c : ClD) : Prop := 0 ≤ c.g → doA m c.o.c c.o.k c.o.h = c.a
def nxS (S : Nat → Bool) (i : Nat) : Nat → Bool := fun j => if j = i then true else S j
/-- These can be done, in this order, behind those that are. -/
def can (L : List ClD) : List Int → (Nat → Bool) → List Pr → Prop
  | [], S, _ => ¬ lft L S
  | x :: l, S, m => 0 ≤ x ∧ Nx L S x.toNat ∧ tlq m (cAt L x) ∧ can L l (nxS S x.toNat) (doP m (cAt L x).o.c (cAt L x).o.k (cAt L x).o.v)
theorem can_some (L : List ClD) (S : Nat → Bool) (m : List Pr) :
    (∃ l, can L l S m) ↔ ¬ lft L S ∨ ∃ i, Nx L S i ∧ tlq m (L.getD i zCl) ∧ ∃ l, can L l (nxS S i) (doP m (L.getD i zCl).o.c (L.getD i zCl).o.k (L.getD i zCl).o.v) := by
  constructor
  · rintro ⟨l, h⟩
    cases l with
    | nil => exact .inl h
    | cons x l => exact .inr ⟨x.toNat, h.2.1, h.2.2.1, l, h.2.2.2⟩
  · rintro (h | ⟨i, h1, h2, l, h3⟩)
    · exact ⟨[], h⟩
    · refine ⟨(i : Int) :: l, Int.natCast_nonneg i, ?_, ?_, ?_⟩
      · rw [Int.toNat_natCast]; exact h1
      · unfold cAt; rw [Int.toNat_natCast]; exact h2
      · unfold cAt; rw [Int.toNat_natCast]; exact h3
theorem dn_cons (L : List ClD) (x : Int) (l : List Int) : dn L (x :: l) = cAt L x :: dn L l := rfl
theorem stt_cons (m : List Pr) (c : ClD) (D : List ClD) : ∀ n, stt m (c :: D) (n + 1) = stt (doP m c.o.c c.o.k c.o.v) D n
  | 0 => rfl
  | n + 1 => by
    show doP (stt m (c :: D) (n + 1)) _ _ _ = doP (stt _ D n) _ _ _
    rw [stt_cons m c D n]
    rfl
theorem tls_cons (m : List Pr) (c : ClD) (D : List ClD) (n : Nat) : tls m (c :: D) (n + 1) ↔ tlq m c ∧ tls (doP m c.o.c c.o.k c.o.v) D n := by
  constructor
  · intro h
    refine ⟨h 0 (by omega), fun i hi => ?_⟩
    have := h (i + 1) (by omega)
    unfold tel at *
    rw [stt_cons] at this
    exact this
  · rintro ⟨h1, h2⟩ i hi
    cases i with
    | zero => exact h1
    | succ i =>
      have := h2 i (by omega)
      unfold tel at *
      rw [stt_cons]
      exact this
theorem inT_cons (c : ClD) (D : List ClD) (n : Nat) : inT (c :: D) (n + 1) ↔ (∀ j, j < n → ¬ bef (D.getD j zCl) c) ∧ inT D n := by
  constructor
  · intro h
    exact ⟨fun j hj => h 0 (j + 1) (by omega) (by omega), fun i j hij hj => h (i + 1) (j + 1) (by omega) (by omega)⟩
  · rintro ⟨h1, h2⟩ i j hij hj
    cases j with
    | zero => omega
    | succ j =>
      cases i with
      | zero => exact h1 j (by omega)
      | succ i => exact h2 i j (by omega) (by omega)
theorem at_mem {L : List ClD} {l : List Int} {j : Nat} (h : j < l.length) : ∃ y ∈ l, (dn L l).getD j zCl = cAt L y := by
  refine ⟨l.getD j 0, ?_, dn_at h⟩
  rw [List.getD_eq_getElem?_getD, List.getElem?_eq_getElem h]
  exact List.getElem_mem h
theorem mem_at {L : List ClD} {l : List Int} {y : Int} (h : y ∈ l) : ∃ j, j < l.length ∧ (dn L l).getD j zCl = cAt L y := by
  obtain ⟨j, hj, e⟩ := List.getElem_of_mem h
  exact ⟨j, hj, by rw [dn_at hj, List.getD_eq_getElem?_getD, List.getElem?_eq_getElem hj]; exact congrArg (cAt L) e⟩
/-- What an order of what is left must be. -/
structure RgF (L : List ClD) (S : Nat → Bool) (m : List Pr) (l : List Int) : Prop where
  inr : ∀ x ∈ l, inR L x ∧ S x.toNat = false ∧ ¬ rfd (cAt L x)
  nd : l.Nodup
  all : ∀ i : Nat, i < L.length → must (L.getD i zCl) → S i = true ∨ (i : Int) ∈ l
  tm : inT (dn L l) l.length
  tl : tls m (dn L l) l.length
theorem rgf_can {L : List ClD} (hir : ∀ i, i < L.length → ¬ bef (L.getD i zCl) (L.getD i zCl)) : ∀ (l : List Int) (S : Nat → Bool) (m : List Pr), RgF L S m l ↔ can L l S m := by
  intro l
  induction l with
  | nil =>
    intro S m
    constructor
    · rintro h ⟨i, h1, h2, h3⟩
      rcases h.all i h1 h3 with h4 | h4
      · rw [h2] at h4; cases h4
      · cases h4
    · intro h
      refine ⟨fun x hx => (by cases hx), List.nodup_nil, fun i hi hm => Or.inl ?_, fun i j hij hj => absurd hj (Nat.not_lt_zero _), fun i hi => absurd hi (Nat.not_lt_zero _)⟩
      cases c : S i
      · exact absurd ⟨i, hi, c, hm⟩ h
      · rfl
  | cons x l ih =>
    intro S m
    have hl : (x :: l).length = l.length + 1 := rfl
    constructor
    · intro h
      obtain ⟨h1, h2, h3⟩ := h.inr x (by simp)
      have hx0 : 0 ≤ x := h1.1
      have hxl : x.toNat < L.length := by have := h1.2; omega
      have htm := h.tm
      rw [hl, dn_cons, inT_cons] at htm
      have htl := h.tl
      rw [hl, dn_cons, tls_cons] at htl
      have hnd := List.nodup_cons.1 h.nd
      refine ⟨hx0, ⟨hxl, h2, h3, fun d hd hS hr => ?_⟩, htl.1, (ih _ _).1 ⟨fun y hy => ?_, hnd.2, fun i hi hm => ?_, htm.2, htl.2⟩⟩
      · by_cases e : (d : Int) ∈ x :: l
        · rcases List.mem_cons.1 e with e | e
          · rw [← e, Int.toNat_natCast]; exact hir d hd
          · obtain ⟨j, hj, hj2⟩ := mem_at (L := L) e
            have := htm.1 j hj
            rw [hj2] at this
            unfold cAt at this
            rw [Int.toNat_natCast] at this
            exact this
        · intro hb
          have hg : 0 ≤ (L.getD d zCl).g := hb.1
          have hm : must (L.getD d zCl) := ⟨hg, Decidable.byContradiction fun y => hr ⟨hg, y⟩⟩
          rcases h.all d hd hm with h4 | h4
          · rw [hS] at h4; cases h4
          · exact e h4
      · obtain ⟨k1, k2, k3⟩ := h.inr y (List.mem_cons_of_mem _ hy)
        refine ⟨k1, ?_, k3⟩
        unfold nxS
        have : ¬ y.toNat = x.toNat := fun e => by
          have : y = x := by have := k1.1; omega
          exact hnd.1 (this ▸ hy)
        rw [if_neg this]; exact k2
      · unfold nxS
        by_cases e : i = x.toNat
        · rw [if_pos e]; exact .inl rfl
        · rw [if_neg e]
          rcases h.all i hi hm with h4 | h4
          · exact .inl h4
          · rcases List.mem_cons.1 h4 with h5 | h5
            · exact absurd (by rw [← h5]; simp) e
            · exact .inr h5
    · rintro ⟨hx0, hn, ht, hc⟩
      have k := (ih _ _).2 hc
      have hxr : inR L x := ⟨hx0, by have := hn.lt; omega⟩
      have hx : x ∉ l := fun e => by
        have := (k.inr x e).2.1
        unfold nxS at this
        rw [if_pos rfl] at this; cases this
      have hy : ∀ y ∈ l, S y.toNat = false := fun y hy => by
        have := (k.inr y hy).2.1
        unfold nxS at this
        by_cases e : y.toNat = x.toNat
        · rw [if_pos e] at this; cases this
        · rwa [if_neg e] at this
      refine ⟨fun y hy' => ?_, List.nodup_cons.2 ⟨hx, k.nd⟩, fun i hi hm => ?_, ?_, ?_⟩
      · rcases List.mem_cons.1 hy' with e | e
        · rw [e]; exact ⟨hxr, hn.nw, hn.no⟩
        · exact ⟨(k.inr y e).1, hy y e, (k.inr y e).2.2⟩
      · rcases k.all i hi hm with h4 | h4
        · unfold nxS at h4
          by_cases e : i = x.toNat
          · exact .inr (List.mem_cons.2 (.inl (by omega)))
          · rw [if_neg e] at h4; exact .inl h4
        · exact .inr (List.mem_cons_of_mem _ h4)
      · rw [hl, dn_cons, inT_cons]
        refine ⟨fun j hj => ?_, k.tm⟩
        obtain ⟨y, hy1, hy2⟩ := at_mem (L := L) hj
        rw [hy2]
        have h5 := (k.inr y hy1).1
        have h6 : y.toNat < L.length := by have := h5.1; have := h5.2; omega
        exact hn.bf y.toNat h6 (hy y hy1) (k.inr y hy1).2.2
      · rw [hl, dn_cons, tls_cons]; exact ⟨ht, k.tl⟩
/-- A right order is one that can be done. -/
theorem rgt_can {N : List EvD} {n : Nat} {s : Mt} (I : MInv N n s) (m : List Pr) (l : List Int) : Rgt m s.l l ↔ can s.l l (fun _ => false) m := by
  have hir : ∀ i, i < s.l.length → ¬ bef (s.l.getD i zCl) (s.l.getD i zCl) := fun i hi => I.irr (i := i) (by rw [List.getD_eq_getElem?_getD, List.getElem?_eq_getElem hi]; rfl)
  rw [← rgf_can hir]
  constructor
  · intro h
    exact ⟨fun x hx => ⟨h.nm.inr x hx, rfl, h.nm.no x hx⟩, h.nm.nd, fun i hi hm => .inr (h.nm.all i hi hm), h.tm, h.tl⟩
  · intro h
    exact ⟨⟨fun x hx => (h.inr x hx).1, h.nd, fun x hx => (h.inr x hx).2.2, fun i hi hm => by
      rcases h.all i hi hm with h4 | h4
      · cases h4
      · exact h4⟩, h.tm, h.tl⟩

/-! A beginning of a history. -/
theorem late_f (h : List EvD) (k : Nat) (s0 : Mt) (h0 : mtc h k = some s0) : ∀ n, k ≤ n → ∀ s, mtc h n = some s → ∀ (i : Nat) (c : ClD), s0.l.length ≤ i → s.l[i]? = some c → (k : Int) ≤ c.f := by
  intro n
  induction n with
  | zero =>
    intro hk s hs i c hi hc
    obtain rfl : k = 0 := by omega
    rw [h0] at hs; cases hs
    rw [List.getElem?_eq_none hi] at hc; cases hc
  | succ n ih =>
    intro hk s hs i c hi hc
    by_cases e : k = n + 1
    · subst e
      rw [h0] at hs; cases hs
      rw [List.getElem?_eq_none hi] at hc; cases hc
    · obtain ⟨s1, hs1⟩ := mtc_some hs n (by omega)
      have ih1 := ih (by omega) s1 hs1
      have I := minv h n s1 hs1
      rw [mtc_succ, hs1] at hs
      simp only [Option.bind_some] at hs
      unfold stp at hs
      by_cases h1 : okT (h.getD n zEv).t
      · rw [if_pos h1] at hs
        by_cases h2 : s1.rets (h.getD n zEv)
        · rw [if_pos h2] at hs
          cases hs
          unfold Mt.ret at hc
          simp only at hc
          rw [List.getElem?_set] at hc
          split at hc
          · rename_i e1
            split at hc
            · rename_i e2
              cases hc
              show (k : Int) ≤ (s1.c (s1.x (h.getD n zEv).t)).f
              have hx := h2.2.1
              have e3 : s1.x (h.getD n zEv).t = i + 1 := by omega
              obtain ⟨d, hd⟩ : ∃ d, s1.l[i]? = some d := ⟨_, List.getElem?_eq_getElem (by omega)⟩
              rw [e3, c_at hd]
              exact ih1 i d hi hd
            · cases hc
          · exact ih1 i c hi hc
        · rw [if_neg h2] at hs
          by_cases h3 : s1.begs (h.getD n zEv)
          · rw [if_pos h3] at hs
            cases hs
            unfold Mt.beg at hc
            simp only at hc
            rcases Nat.lt_trichotomy i s1.l.length with h4 | h4 | h4
            · rw [List.getElem?_append_left h4] at hc; exact ih1 i c hi hc
            · subst h4
              rw [List.getElem?_append_right (Nat.le_refl _)] at hc
              simp at hc
              subst hc
              show (k : Int) ≤ (n : Int)
              omega
            · rw [List.getElem?_eq_none (by rw [List.length_append, List.length_singleton]; omega)] at hc; cases hc
          · rw [if_neg h3] at hs; cases hs
      · rw [if_neg h1] at hs; cases hs
theorem take_part (P : Int → Bool) : ∀ l : List Int, ∃ r, l = l.takeWhile P ++ r ∧ (∀ x ∈ l.takeWhile P, P x = true) ∧ (r = [] ∨ ∃ x r', r = x :: r' ∧ P x = false)
  | [] => ⟨[], rfl, fun x hx => (by cases hx), .inl rfl⟩
  | y :: l => by
    cases e : P y
    · exact ⟨y :: l, by simp [List.takeWhile_cons, e], fun x hx => by simp [List.takeWhile_cons, e] at hx, .inr ⟨y, l, rfl, e⟩⟩
    · obtain ⟨r, h1, h2, h3⟩ := take_part P l
      refine ⟨r, ?_, fun x hx => ?_, h3⟩
      · rw [List.takeWhile_cons, e]
        simp only [if_true]
        rw [List.cons_append, ← h1]
      · rw [List.takeWhile_cons, e] at hx
        simp only [if_true] at hx
        rcases List.mem_cons.1 hx with h4 | h4
        · rw [h4]; exact e
        · exact h2 x h4
/-- A beginning of a history that has an order has one. -/
theorem pre_rgt {h : List EvD} {k n : Nat} {s0 s : Mt} (h0 : mtc h k = some s0) (hs : mtc h n = some s) (hk : k ≤ n) {m : List Pr} {l : List Int} (hr : Rgt m s.l l) :
    Rgt m s0.l (l.takeWhile (fun x => decide (x.toNat < s0.l.length))) := by
  have I0 := minv h k s0 h0
  obtain ⟨x1, x2⟩ := mtc_ext h k s0 h0 n hk s hs
  have lf := late_f h k s0 h0 n hk s hs
  obtain ⟨r, e, hp, hrr⟩ := take_part (fun x => decide (x.toNat < s0.l.length)) l
  generalize hpp : l.takeWhile (fun x => decide (x.toNat < s0.l.length)) = p at *
  have hin : ∀ x ∈ p, x ∈ l := fun x hx => by rw [e]; exact List.mem_append_left _ hx
  have hps : ∀ x ∈ p, inR s0.l x := fun x hx => by
    have h1 := hr.nm.inr x (hin x hx)
    have h2 := of_decide_eq_true (hp x hx)
    unfold inR at *
    omega
  -- a call of the beginning, and the same call at the end
  have same : ∀ x, inR s0.l x → (cAt s.l x).f = (cAt s0.l x).f ∧ (cAt s.l x).o = (cAt s0.l x).o ∧ (0 ≤ (cAt s0.l x).g → (cAt s.l x).g = (cAt s0.l x).g ∧ (cAt s.l x).a = (cAt s0.l x).a) := fun x hx => by
    have hc := cAt_mem hx
    obtain ⟨d, d1, d2, d3, d4, d5, d6⟩ := x2 _ _ hc
    have hd : cAt s.l x = d := by unfold cAt; rw [List.getD_eq_getElem?_getD, d1]; rfl
    rw [hd]
    exact ⟨d3, d4, d5⟩
  have gk : ∀ x, inR s0.l x → (cAt s0.l x).g < (k : Int) := fun x hx => by
    obtain ⟨_, _, h3⟩ := I0.has _ _ (cAt_mem hx)
    rcases h3 with ⟨a, _⟩ | ⟨_, q, q1, _, q3, _⟩ <;> omega
  have hlen : p.length ≤ l.length := by rw [e, List.length_append]; omega
  have hat : ∀ i, i < p.length → l.getD i 0 = p.getD i 0 := fun i hi => by
    rw [e, List.getD_eq_getElem?_getD, List.getElem?_append_left hi, ← List.getD_eq_getElem?_getD]
  have hmem : ∀ i, i < p.length → p.getD i 0 ∈ p := fun i hi => by
    rw [List.getD_eq_getElem?_getD, List.getElem?_eq_getElem hi]; exact List.getElem_mem hi
  have ddn : ∀ i, i < p.length → (dn s.l l).getD i zCl = cAt s.l (p.getD i 0) ∧ (dn s0.l p).getD i zCl = cAt s0.l (p.getD i 0) := fun i hi => by
    exact ⟨by rw [dn_at (by omega), hat i hi], dn_at hi⟩
  have hst : ∀ i, i ≤ p.length → stt m (dn s0.l p) i = stt m (dn s.l l) i := by
    intro i
    induction i with
    | zero => intro _; rfl
    | succ i ih =>
      intro hi
      obtain ⟨e1, e2⟩ := ddn i (by omega)
      have := (same _ (hps _ (hmem i (by omega)))).2.1
      show doP _ _ _ _ = doP _ _ _ _
      rw [ih (by omega), e1, e2, this]
  refine ⟨⟨hps, ?_, fun x hx hf => ?_, fun i hi hm => ?_⟩, fun i j hij hj hb => ?_, fun i hi hg => ?_⟩
  · have := hr.nm.nd
    rw [e, List.nodup_append] at this
    exact this.1
  · obtain ⟨_, _, s3⟩ := same x (hps x hx)
    obtain ⟨g1, g2⟩ := s3 hf.1
    exact hr.nm.no x (hin x hx) ⟨by rw [g1]; exact hf.1, by rw [g2]; exact hf.2⟩
  · have hxr : inR s0.l (i : Int) := ⟨Int.natCast_nonneg i, by omega⟩
    have hc0 : cAt s0.l (i : Int) = s0.l.getD i zCl := by unfold cAt; rw [Int.toNat_natCast]
    have hc1 : cAt s.l (i : Int) = s.l.getD i zCl := by unfold cAt; rw [Int.toNat_natCast]
    obtain ⟨_, _, s3⟩ := same _ hxr
    rw [hc0] at s3
    obtain ⟨g1, g2⟩ := s3 hm.1
    have hmd : must (s.l.getD i zCl) := by rw [← hc1]; exact ⟨by rw [g1]; exact hm.1, by rw [g2]; exact hm.2⟩
    have hil := hr.nm.all i (by omega) hmd
    rw [e] at hil
    rcases List.mem_append.1 hil with h4 | h4
    · exact h4
    · exfalso
      rcases hrr with rfl | ⟨x, r', rfl, hx⟩
      · cases h4
      · have hxn : s0.l.length ≤ x.toNat := by have := of_decide_eq_false hx; omega
        have hxl : x ∈ l := by rw [e]; simp
        have hxi := hr.nm.inr x hxl
        have hfx := lf _ _ hxn (cAt_mem hxi)
        rcases List.mem_cons.1 h4 with h5 | h5
        · rw [← h5, Int.toNat_natCast] at hxn; omega
        · obtain ⟨q, hq, hq2⟩ := List.getElem_of_mem h5
          have hp1 : p.length < l.length := by rw [e]; simp
          have hp2 : p.length + 1 + q < l.length := by rw [e]; simp; omega
          have := hr.tm p.length (p.length + 1 + q) (by omega) hp2
          rw [dn_at hp1, dn_at hp2] at this
          have e1 : l.getD p.length 0 = x := by rw [e, List.getD_eq_getElem?_getD, List.getElem?_append_right (Nat.le_refl _)]; simp
          have e2 : l.getD (p.length + 1 + q) 0 = (i : Int) := by
            rw [e, List.getD_eq_getElem?_getD, List.getElem?_append_right (by omega), show p.length + 1 + q - p.length = q + 1 by omega, List.getElem?_cons_succ, List.getElem?_eq_getElem hq, hq2]; rfl
          rw [e1, e2] at this
          have hgk := gk _ hxr
          rw [hc0] at hgk
          have hmg : 0 ≤ (s0.l.getD i zCl).g := hm.1
          refine this ⟨by rw [g1]; exact hmg, ?_⟩
          rw [g1]; omega
  · obtain ⟨e1, e2⟩ := ddn i (by omega)
    obtain ⟨e3, e4⟩ := ddn j hj
    have := hr.tm i j hij (by omega)
    rw [e1, e3] at this
    rw [e2, e4] at hb
    have hf := (same _ (hps _ (hmem i (by omega)))).1
    have hg := ((same _ (hps _ (hmem j hj))).2.2 hb.1).1
    refine this ⟨by rw [hg]; exact hb.1, ?_⟩
    rw [hg, hf]; exact hb.2
  · obtain ⟨e1, e2⟩ := ddn i hi
    rw [e2] at hg ⊢
    obtain ⟨_, s2, s3⟩ := same _ (hps _ (hmem i hi))
    obtain ⟨g1, g2⟩ := s3 hg
    have := hr.tl i (by omega)
    unfold tel at this
    rw [e1, ← hst i (by omega), s2, g1, g2] at this
    exact this hg

/-! A search that remembers what has failed. -/
/-- Nothing more can be done from here. -/
def Fld (L : List ClD) (S : Nat → Bool) (m : List Pr) : Prop := ¬ ∃ l, can L l S m
theorem fld_all {L : List ClD} {S : Nat → Bool} {m : List Pr} (hl : lft L S) (h : ∀ i, Nx L S i → tlq m (L.getD i zCl) → Fld L (nxS S i) (doP m (L.getD i zCl).o.c (L.getD i zCl).o.k (L.getD i zCl).o.v)) : Fld L S m := fun x => by
  rcases (can_some L S m).1 x with h1 | ⟨i, h1, h2, h3⟩
  · exact h1 hl
  · exact h i h1 h2 h3
theorem can_left {L : List ClD} {S : Nat → Bool} {m : List Pr} (hl : ¬ lft L S) : ¬ Fld L S m := fun h => h ⟨[], hl⟩
theorem can_next {L : List ClD} {S : Nat → Bool} {m : List Pr} {i : Nat} (h1 : Nx L S i) (h2 : tlq m (L.getD i zCl)) (h3 : ¬ Fld L (nxS S i) (doP m (L.getD i zCl).o.c (L.getD i zCl).o.k (L.getD i zCl).o.v)) : ¬ Fld L S m := fun h =>
  h3 fun x => h ((can_some L S m).2 (.inr ⟨i, h1, h2, x⟩))
/-- How many of the first n are done. -/
def cntS (S : Nat → Bool) : Nat → Nat
  | 0 => 0
  | n + 1 => cntS S n + (if S n = true then 1 else 0)
theorem cntS_le (S : Nat → Bool) : ∀ n, cntS S n ≤ n
  | 0 => Nat.le_refl _
  | n + 1 => by have := cntS_le S n; simp only [cntS]; split <;> omega
theorem cntS_past (S : Nat → Bool) (i : Nat) : ∀ n, n ≤ i → cntS (nxS S i) n = cntS S n
  | 0, _ => rfl
  | n + 1, h => by
    have := cntS_past S i n (by omega)
    simp only [cntS]
    rw [this]
    unfold nxS
    rw [if_neg (show ¬ n = i by omega)]
theorem cntS_next (S : Nat → Bool) (i : Nat) (hi : S i = false) : ∀ n, i < n → cntS (nxS S i) n = cntS S n + 1
  | 0, h => by omega
  | n + 1, h => by
    simp only [cntS]
    by_cases e : n = i
    · subst e
      rw [cntS_past S n n (Nat.le_refl _), hi]
      simp [nxS]
    · rw [cntS_next S i hi n (by omega)]
      unfold nxS
      rw [if_neg e]
      omega
/-- What is remembered has failed, or lies on the way to here. -/
def Rem (L : List ClD) (T : List ((Nat → Bool) × List Pr)) (c : Nat) : Prop := ∀ t ∈ T, Fld L t.1 t.2 ∨ cntS t.1 L.length < c
theorem Rem.hit {L : List ClD} {T : List ((Nat → Bool) × List Pr)} {S : Nat → Bool} {m : List Pr} (h : Rem L T (cntS S L.length)) (ht : (S, m) ∈ T) : Fld L S m := by
  rcases h _ ht with h1 | h1
  · exact h1
  · exact absurd h1 (Nat.lt_irrefl _)
theorem Rem.add {L : List ClD} {T : List ((Nat → Bool) × List Pr)} {S : Nat → Bool} (h : Rem L T (cntS S L.length)) (m : List Pr) : Rem L ((S, m) :: T) (cntS S L.length + 1) := fun t ht => by
  rcases List.mem_cons.1 ht with h1 | h1
  · rw [h1]; exact .inr (Nat.lt_succ_self _)
  · rcases h t h1 with h2 | h2
    · exact .inl h2
    · exact .inr (by omega)
theorem Rem.next {L : List ClD} {T T' : List ((Nat → Bool) × List Pr)} {c : Nat} (h : Rem L T c) (h' : ∀ t ∈ T', t ∈ T ∨ Fld L t.1 t.2) : Rem L T' c := fun t ht => by
  rcases h' t ht with h1 | h1
  · exact h t h1
  · exact .inl h1
end Go.Proofs.Ytadfnbmogobopaa

namespace Go.Proofs.Ytadfnbmogobopaa
open Go.RowKit
set_option linter.all false

theorem had_iffL {L : List Pr} (h : Srt L) (z : Pr) : z ∈ L ↔ hadL L z.1 = (true, z.1, z.2) := by
  constructor
  · intro hz; exact hadL_mem h (v := z.2) hz
  · intro e
    obtain ⟨v, hv, e2⟩ := hadL_some (l := L) (k := z.1) (by rw [e])
    rw [e] at e2
    have : z.2 = v := by simpa using e2
    rw [← this] at hv
    exact hv
theorem doP_offL {L : List Pr} (h : Srt L) {c k v : Int} (ho : okOp c) {z : Pr} (hz : z.1 ≠ k) : z ∈ doP L c k v ↔ z ∈ L := by
  have hw : z ∈ withL L k v ↔ z ∈ L := by
    rw [withL_in h]
    constructor
    · rintro (e | e)
      · exact absurd (by rw [e]) hz
      · exact e.1
    · intro e; exact .inr ⟨e, hz⟩
  by_cases h1 : c = 1
  · rw [doP_put h ho k v h1]; exact hw
  by_cases h2 : c = 2
  · rw [doP_add h ho k v h2]
    split
    · exact Iff.rfl
    · exact hw
  by_cases h3 : c = 3
  · rw [doP_cut h ho k v h3, cutL_mem]
    exact ⟨fun e => e.1, fun e => ⟨e, hz⟩⟩
  · rw [doP_read h ho k v (by have := ho.1; omega)]
/-- What a map has of a key. -/
def hv (m : List Pr) (k : Int) : Bool × Int := ((hadL m k).1, (hadL m k).2.2)
theorem hv_had {m : List Pr} {k v : Int} : hadL m k = (true, k, v) ↔ hv m k = (true, v) := by
  unfold hv
  constructor
  · intro e; rw [e]
  · intro e
    simp only [Prod.mk.injEq] at e
    obtain ⟨u, _, e2⟩ := hadL_some e.1
    rw [e2] at e ⊢
    simp only at e
    rw [e.2]
/-- A map that has of all other keys what the beginning has. -/
structure Agr (L : List ClD) (b m : List Pr) : Prop where
  s : Srt m
  off : ∀ z : Pr, (∀ i, i < L.length → (L.getD i zCl).o.k ≠ z.1) → (z ∈ m ↔ z ∈ b)
theorem Agr.start {L : List ClD} {b : List Pr} (h : Srt b) : Agr L b b := ⟨h, fun _ _ => Iff.rfl⟩
theorem Agr.next {L : List ClD} {b m : List Pr} (h : Agr L b m) {i : Nat} (hi : i < L.length) : Agr L b (doP m (L.getD i zCl).o.c (L.getD i zCl).o.k (L.getD i zCl).o.v) := ⟨doP_s h.s _ _ _, fun z hz => by
  by_cases ho : okOp (L.getD i zCl).o.c
  · rw [doP_offL h.s ho (fun e => hz i hi e.symm)]; exact h.off z hz
  · rw [doP_bad (fun x => ho x.2)]; exact h.off z hz⟩
theorem Agr.eq {L : List ClD} {b m m' : List Pr} (h : Agr L b m) (h' : Agr L b m') (e : ∀ i, i < L.length → hv m (L.getD i zCl).o.k = hv m' (L.getD i zCl).o.k) : m = m' := by
  refine srt_ext h.s h'.s fun z => ?_
  by_cases hk : ∀ i, i < L.length → (L.getD i zCl).o.k ≠ z.1
  · rw [h.off z hk, h'.off z hk]
  · have : ∃ i, i < L.length ∧ (L.getD i zCl).o.k = z.1 := Decidable.byContradiction fun x => hk fun i hi y => x ⟨i, hi, y⟩
    obtain ⟨i, hi, ek⟩ := this
    have := e i hi
    rw [ek] at this
    rw [had_iffL h.s, had_iffL h'.s, hv_had, hv_had, this]
/-- How much is remembered of so many calls that are left. -/
def memF : Nat → Nat
  | 0 => 1
  | n + 1 => 1 + (n + 1) * memF n
theorem memF_pos : ∀ n, 1 ≤ memF n
  | 0 => Nat.le_refl _
  | n + 1 => by unfold memF; omega
theorem memF_up : ∀ n, memF n ≤ memF (n + 1)
  | n => by
    show memF n ≤ 1 + (n + 1) * memF n
    have : 1 * memF n ≤ (n + 1) * memF n := Nat.mul_le_mul_right _ (by omega)
    omega
theorem memF_le {n : Nat} (h : n ≤ 16) : memF n ≤ 56874039553217 := by
  have : ∀ k, k ≤ 16 - n → memF n ≤ memF (n + k) := by
    intro k
    induction k with
    | zero => intro _; exact Nat.le_refl _
    | succ k ih => intro hk; exact Nat.le_trans (ih (by omega)) (memF_up _)
  have := this (16 - n) (Nat.le_refl _)
  rw [show n + (16 - n) = 16 by omega] at this
  exact Nat.le_trans this (by decide)
theorem cntS_sub (S : Nat → Bool) : ∀ n, cntS S n ≤ n := cntS_le S
/-- The unnamed ones among the first n. -/
def lefS (S : Nat → Bool) (n : Nat) : Nat := n - cntS S n
theorem lefS_step (S : Nat → Bool) (n : Nat) : lefS S (n + 1) = lefS S n + (if S n = true then 0 else 1) := by
  unfold lefS
  have := cntS_le S n
  simp only [cntS]
  split <;> omega
theorem lefS_mono (S : Nat → Bool) {n k : Nat} (h : n ≤ k) : lefS S n ≤ lefS S k := by
  induction k with
  | zero => obtain rfl : n = 0 := by omega
            exact Nat.le_refl _
  | succ k ih =>
    by_cases e : n = k + 1
    · subst e; exact Nat.le_refl _
    · have := ih (by omega)
      rw [lefS_step]; omega
theorem lefS_next {S : Nat → Bool} {i n : Nat} (hi : S i = false) (hn : i < n) : lefS (nxS S i) n + 1 = lefS S n := by
  unfold lefS
  have h1 := cntS_next S i hi n hn
  have h2 := cntS_le (nxS S i) n
  omega
/-- A state of the search that may be. -/
structure StO (L : List ClD) (b : List Pr) (t : (Nat → Bool) × List Pr) : Prop where
  off : ∀ i, 16 ≤ i → t.1 i = false
  ag : Agr L b t.2
theorem StO.next {L : List ClD} {b m : List Pr} {S : Nat → Bool} (h : StO L b (S, m)) {i : Nat} (hi : i < L.length) (hl : L.length ≤ 16) : StO L b (nxS S i, doP m (L.getD i zCl).o.c (L.getD i zCl).o.k (L.getD i zCl).o.v) :=
  ⟨fun j hj => by
    show (if j = i then true else S j) = false
    rw [if_neg (by omega)]; exact h.off j hj, h.ag.next hi⟩
theorem StO.eq {L : List ClD} {b : List Pr} {t u : (Nat → Bool) × List Pr} (h : StO L b t) (k : StO L b u) (e1 : ∀ i, i < 16 → t.1 i = u.1 i) (e2 : ∀ i, i < L.length → hv t.2 (L.getD i zCl).o.k = hv u.2 (L.getD i zCl).o.k) : t = u := by
  obtain ⟨S, m⟩ := t
  obtain ⟨S', m'⟩ := u
  have e3 : S = S' := funext fun i => by
    by_cases hi : i < 16
    · exact e1 i hi
    · rw [show S i = false from h.off i (by omega), show S' i = false from k.off i (by omega)]
  have e4 : m = m' := h.ag.eq k.ag e2
  rw [e3, e4]
end Go.Proofs.Ytadfnbmogobopaa
