/- What sound.Same has come to: which pairs stand for which node; the plain mathematics of its two maps. -/
import Derived.Test.YtbmlpdkbiipcmaaSoK
namespace Go.Proofs.Ytbmlpdkbiipcmaa
open Go.RowKit Go.Maps
set_option linter.all false

abbrev DW := DataW Unit
def i64 (c : Int) : DW := .lit (.int .i64 c)
theorem i64_inj {a b : Int} (h : i64 a = i64 b) : a = b := by
  unfold i64 at h
  injection h with h
  injection h
def OwnI (W : World) (b n : Nat) (D : DW) : Prop := W.ownsMap Try.prog 3 (plainElem Try.prog 3) b n D
def OwnS (W : World) (b n : Nat) (D : DW) : Prop := W.ownsMap Try.prog 87 (plainElem Try.prog 3) b n D
def sayV (q : Pr) (a b : Int) : Value := .agg #[.int .i64 q.1, .int .i64 q.2, .int .i64 a, .int .i64 b]
theorem sayV_inj {q q' : Pr} {a b a' b' : Int} (h : sayV q a b = sayV q' a' b') : q = q' ∧ a = a' ∧ b = b' := by
  unfold sayV at h
  simp at h
  obtain ⟨h1, h2, h3, h4⟩ := h
  exact ⟨Prod.ext h1 h2, h3, h4⟩
abbrev Rep := List Pr → Option Int
def rep0 (rep : Rep) (l : List Pr) : Option Int := if l = [] then some 0 else rep l
theorem rep0_nil (rep : Rep) : rep0 rep [] = some 0 := rfl
theorem rep0_ne (rep : Rep) {l : List Pr} (h : l ≠ []) : rep0 rep l = rep l := if_neg h
def Mono (rep rep' : Rep) : Prop := ∀ l r, rep l = some r → rep' l = some r
theorem Mono.refl (rep : Rep) : Mono rep rep := fun _ _ h => h
theorem Mono.trans {a b c : Rep} (h : Mono a b) (k : Mono b c) : Mono a c := fun l r e => k l r (h l r e)
theorem Mono.rep0 {rep rep' : Rep} (h : Mono rep rep') {l : List Pr} {r : Int} (e : rep0 rep l = some r) : rep0 rep' l = some r := by
  by_cases hl : l = []
  · subst hl; exact e
  · rw [rep0_ne _ hl] at e ⊢; exact h l r e

theorem Tree.uniq {L : List It} {t : Int} {l : List Pr} (h : Tree L t l) : ∀ l', Tree L t l' → l = l' := by
  induction h with
  | nil =>
    intro l' h'
    rcases h'.parts with ⟨_, e⟩ | ⟨i, q, x, y, h1, h2, h3, _⟩
    · exact e.symm
    · have := (itemAt_range h3).1; omega
  | node t x y l i q h1 h2 h3 h4 h5 h6 h7 _ _ ih1 ih2 =>
    intro l' h'
    rcases h'.parts with ⟨e, _⟩ | ⟨i', q', x', y', g1, g2, g3, g4, g5, g6, g7, g8, g9⟩
    · have := (itemAt_range h3).1; omega
    · rw [h3] at g3
      simp only [Option.some.injEq, Prod.mk.injEq, List.cons.injEq, true_and, and_true] at g3
      obtain ⟨e1, e2, e3, e4, -, -⟩ := g3
      subst e3 e4
      rw [split_at h2, split_at g2, ih1 _ g8, ih2 _ g9, show q = q' from Prod.ext e1 e2]

structure Inv (L : List It) (rep : Rep) (Do Ds : DW) : Prop where
  tr : ∀ l r, rep l = some r → Tree L r l ∧ l ≠ []
  of : ∀ t c, has Do (.int .i64 t) = true → Do.atKey (.int .i64 t) (i64 0) = i64 c → ∃ l, Tree L t l ∧ rep l = some c
  by1 : ∀ q a b kl c, keyOf Try.prog 87 (sayV q a b) = some kl → has Ds kl = true → Ds.atKey kl (i64 0) = i64 c → ∃ A B, rep0 rep A = some a ∧ rep0 rep B = some b ∧ rep (A ++ q :: B) = some c
  by2 : ∀ A q B c, topL (A ++ q :: B) = (A.length : Int) → rep (A ++ q :: B) = some c → ∃ a b kl, rep0 rep A = some a ∧ rep0 rep B = some b ∧ keyOf Try.prog 87 (sayV q a b) = some kl ∧ has Ds kl = true

theorem Inv.start (L : List It) : Inv L (fun _ => none) (.map []) (.map []) :=
  ⟨fun _ _ h => (by cases h), fun _ _ h => (by cases h), fun _ _ _ _ _ _ h => (by cases h), fun _ _ _ _ _ h => (by cases h)⟩

section
variable {L : List It} {rep : Rep} {Do Ds : DW}
theorem Inv.inj0 (H : Inv L rep Do Ds) {A A' : List Pr} {a : Int} (h : rep0 rep A = some a) (h' : rep0 rep A' = some a) : A = A' := by
  have tr0 : ∀ {C : List Pr}, rep0 rep C = some a → Tree L a C := by
    intro C hC
    by_cases hn : C = []
    · subst hn
      cases hC
      exact .nil
    · rw [rep0_ne _ hn] at hC
      exact (H.tr C a hC).1
  exact (tr0 h).uniq _ (tr0 h')
theorem Inv.zero (H : Inv L rep Do Ds) : has Do (.int .i64 0) = true → ∀ c, Do.atKey (.int .i64 0) (i64 0) = i64 c → False := by
  intro h c hc
  obtain ⟨l, hT, hr⟩ := H.of 0 c h hc
  have := (H.tr l c hr).2
  exact this (hT.uniq [] .nil)
/-- A node that was come to. -/
theorem Inv.was (H : Inv L rep Do Ds) {t c : Int} {l : List Pr} (hT : Tree L t l) (h : has Do (.int .i64 t) = true) (hc : Do.atKey (.int .i64 t) (i64 0) = i64 c) : rep0 rep l = some c := by
  obtain ⟨l', hT', hr⟩ := H.of t c h hc
  obtain rfl := hT.uniq _ hT'
  rw [rep0_ne _ (H.tr l c hr).2]
  exact hr
/-- Some node that says the same was come to. -/
theorem Inv.said (H : Inv L rep Do Ds) {q : Pr} {a b c : Int} {A B : List Pr} {kl : Lit} (hA : rep0 rep A = some a) (hB : rep0 rep B = some b) (hk : keyOf Try.prog 87 (sayV q a b) = some kl) (h : has Ds kl = true) (hc : Ds.atKey kl (i64 0) = i64 c) :
    rep (A ++ q :: B) = some c := by
  obtain ⟨A', B', h1, h2, h3⟩ := H.by1 q a b kl c hk h hc
  obtain rfl := H.inj0 hA h1
  obtain rfl := H.inj0 hB h2
  exact h3
theorem Inv.unsaid (H : Inv L rep Do Ds) {q : Pr} {a b : Int} {A B : List Pr} {kl : Lit} (ht : topL (A ++ q :: B) = (A.length : Int)) (hA : rep0 rep A = some a) (hB : rep0 rep B = some b) (hk : keyOf Try.prog 87 (sayV q a b) = some kl) (h : has Ds kl = false) :
    rep (A ++ q :: B) = none := by
  cases hr : rep (A ++ q :: B) with
  | none => rfl
  | some c =>
    obtain ⟨a', b', kl', h1, h2, h3, h4⟩ := H.by2 A q B c ht hr
    rw [hA] at h1
    rw [hB] at h2
    cases h1
    cases h2
    rw [hk] at h3
    cases h3
    rw [h] at h4
    cases h4

theorem keyI (t : Int) : WideAt.IsKeyLit (.int .i64 t) := by trivial
/-- The node is put beside what stands for it. -/
theorem Inv.put (H : Inv L rep Do Ds) (hD : IsMap Do) {t c : Int} {l : List Pr} (hT : Tree L t l) (hr : rep l = some c) : Inv L rep (Do.put (.int .i64 t) (i64 c)) Ds := by
  refine ⟨H.tr, ?_, H.by1, H.by2⟩
  intro t' c' h1 h2
  by_cases e : t' = t
  · subst e
    rw [atKey_put_same hD (keyI t')] at h2
    obtain rfl := i64_inj h2
    exact ⟨l, hT, hr⟩
  · have hne : (Lit.int .i64 t') ≠ Lit.int .i64 t := fun h => e (by injection h)
    rw [has_put_other hne] at h1
    rw [atKey_put_other hne] at h2
    exact H.of t' c' h1 h2
/-- A node that stands for its pairs. -/
theorem Inv.new (H : Inv L rep Do Ds) (hD : IsMap Ds) {t a b : Int} {A B : List Pr} {q : Pr} {kl : Lit} (hT : Tree L t (A ++ q :: B)) (ht : topL (A ++ q :: B) = (A.length : Int)) (hA : rep0 rep A = some a) (hB : rep0 rep B = some b)
    (hk : keyOf Try.prog 87 (sayV q a b) = some kl) (h : has Ds kl = false) :
    ∃ rep', Mono rep rep' ∧ rep' (A ++ q :: B) = some t ∧ Inv L rep' Do (Ds.put kl (i64 t)) := by
  have hn := H.unsaid ht hA hB hk h
  have m : Mono rep (fun l => if l = A ++ q :: B then some t else rep l) := by
    intro l r e
    show (if l = A ++ q :: B then some t else rep l) = some r
    rw [if_neg (fun hh => by subst hh; rw [hn] at e; cases e)]
    exact e
  have hkl := lawS.key hk
  refine ⟨_, m, if_pos rfl, ⟨?_, ?_, ?_, ?_⟩⟩
  · intro l r e
    by_cases hl : l = A ++ q :: B
    · subst hl
      rw [if_pos rfl] at e
      cases e
      exact ⟨hT, by simp⟩
    · rw [if_neg hl] at e
      exact H.tr l r e
  · intro t' c h1 h2
    obtain ⟨l, h3, h4⟩ := H.of t' c h1 h2
    exact ⟨l, h3, m l c h4⟩
  · intro q' a' b' kl' c hk' h1 h2
    by_cases e : kl' = kl
    · subst e
      obtain ⟨rfl, rfl, rfl⟩ := sayV_inj (lawS.inj hk' hk)
      rw [atKey_put_same hD hkl] at h2
      obtain rfl := i64_inj h2
      exact ⟨A, B, m.rep0 hA, m.rep0 hB, if_pos rfl⟩
    · rw [has_put_other e] at h1
      rw [atKey_put_other e] at h2
      obtain ⟨A', B', g1, g2, g3⟩ := H.by1 q' a' b' kl' c hk' h1 h2
      exact ⟨A', B', m.rep0 g1, m.rep0 g2, m _ _ g3⟩
  · intro A' q' B' c ht' e
    by_cases hl : A' ++ q' :: B' = A ++ q :: B
    · have hlen : A'.length = A.length := by rw [hl, ht] at ht'; exact (Int.ofNat.inj ht').symm
      obtain ⟨rfl, e2⟩ := List.append_inj hl hlen
      cases e2
      exact ⟨a, b, kl, m.rep0 hA, m.rep0 hB, hk, has_put_same hD hkl _⟩
    · rw [if_neg hl] at e
      obtain ⟨a', b', kl', g1, g2, g3, g4⟩ := H.by2 A' q' B' c ht' e
      refine ⟨a', b', kl', m.rep0 g1, m.rep0 g2, g3, ?_⟩
      by_cases e2 : kl' = kl
      · subst e2; exact has_put_same hD hkl _
      · rw [has_put_other e2]; exact g4
end
end Go.Proofs.Ytbmlpdkbiipcmaa
