/- The mathematics of putting: the order does not matter. -/
import Derived.Test.YtellkcppgfghhaaPtM
namespace Go.Proofs.Ytellkcppgfghhaa
open Go.RowKit
set_option linter.all false

/-- Of one key there is one pair. -/
def Fun (ps : List Pr) : Prop := ∀ a ∈ ps, ∀ b ∈ ps, a.1 = b.1 → a = b
theorem Fun.nil : Fun [] := fun a h => by cases h
theorem Fun.sub {ps qs : List Pr} (h : Fun ps) (hs : ∀ z ∈ qs, z ∈ ps) : Fun qs := fun a ha b hb e => h a (hs a ha) b (hs b hb) e
theorem Fun.snoc {ps : List Pr} (h : Fun ps) (q : Pr) (hn : findL ps q.1 = none) : Fun (ps ++ [q]) := by
  have hno : ∀ z ∈ ps, z.1 ≠ q.1 := by
    intro z hz e
    unfold findL at hn
    have := List.find?_eq_none.1 hn z hz
    simp [e] at this
  intro a ha b hb e
  rcases List.mem_append.1 ha with ha | ha <;> rcases List.mem_append.1 hb with hb | hb
  · exact h a ha b hb e
  · rw [List.mem_singleton.1 hb] at e ⊢; exact absurd e (hno a ha)
  · rw [List.mem_singleton.1 ha] at e ⊢; exact absurd e.symm (hno b hb)
  · rw [List.mem_singleton.1 ha, List.mem_singleton.1 hb]
theorem mem_putL {ps : List Pr} : ∀ {l : List Pr}, Srt l → Fun ps → ∀ z, z ∈ putL l ps ↔ z ∈ ps ∨ (z ∈ l ∧ ∀ q ∈ ps, q.1 ≠ z.1) := by
  induction ps with
  | nil => intro l _ _ z; simp [putL]
  | cons q ps ih =>
    intro l hl hf z
    have h1 := ih (withL_is_srt l q.1 q.2 hl) (hf.sub (fun z hz => List.mem_cons_of_mem _ hz)) z
    have h2 := mem_withL hl q.1 q.2 z
    have e : putL l (q :: ps) = putL (withL l q.1 q.2) ps := rfl
    rw [e, h1, h2]
    constructor
    · rintro (h | ⟨rfl | ⟨h, hne⟩, hn⟩)
      · exact .inl (List.mem_cons_of_mem _ h)
      · exact .inl (List.mem_cons_self ..)
      · refine .inr ⟨h, fun y hy => ?_⟩
        rcases List.mem_cons.1 hy with rfl | hy
        · exact fun e => hne e.symm
        · exact hn y hy
    · rintro (h | ⟨h, hn⟩)
      · rcases List.mem_cons.1 h with rfl | h
        · by_cases hx : ∃ y ∈ ps, y.1 = z.1
          · obtain ⟨y, hy, hye⟩ := hx
            have := hf y (List.mem_cons_of_mem _ hy) z (List.mem_cons_self ..) hye
            subst this
            exact .inl hy
          · exact .inr ⟨.inl rfl, fun y hy e => hx ⟨y, hy, e⟩⟩
        · exact .inl h
      · exact .inr ⟨.inr ⟨h, fun e => hn q (List.mem_cons_self ..) e.symm⟩, fun y hy => hn y (List.mem_cons_of_mem _ hy)⟩
theorem mem_putN {ps : List Pr} (hf : Fun ps) (z : Pr) : z ∈ putL [] ps ↔ z ∈ ps := by
  rw [mem_putL Srt.nil hf]; simp
theorem Srt.ext {l : List Pr} : ∀ {l' : List Pr}, Srt l → Srt l' → (∀ z, z ∈ l ↔ z ∈ l') → l = l' := by
  induction l with
  | nil =>
    intro l' _ _ h
    cases l' with
    | nil => rfl
    | cons y ys => have := (h y).2 (List.mem_cons_self ..); cases this
  | cons x xs ih =>
    intro l' h1 h2 h
    cases l' with
    | nil => have := (h x).1 (List.mem_cons_self ..); cases this
    | cons y ys =>
      have h1c := List.pairwise_cons.1 h1
      have h2c := List.pairwise_cons.1 h2
      have exy : x = y := by
        rcases List.mem_cons.1 ((h x).1 (List.mem_cons_self ..)) with e | hx
        · exact e
        · rcases List.mem_cons.1 ((h y).2 (List.mem_cons_self ..)) with e | hy
          · exact e.symm
          · have a1 := h1c.1 y hy
            have a2 := h2c.1 x hx
            omega
      subst exy
      congr 1
      refine ih h1c.2 h2c.2 (fun z => ?_)
      have hz := h z
      rw [List.mem_cons, List.mem_cons] at hz
      constructor
      · intro hm
        rcases hz.1 (.inr hm) with rfl | h'
        · have := h1c.1 z hm; omega
        · exact h'
      · intro hm
        rcases hz.2 (.inr hm) with rfl | h'
        · have := h2c.1 z hm; omega
        · exact h'
/-- The same pairs, of one key one, in whatever order, are the same sorted pairs. -/
theorem putL_same {ps qs : List Pr} (hf : Fun ps) (h : ∀ z, z ∈ qs ↔ z ∈ ps) : putL [] qs = putL [] ps :=
  Srt.ext (putL_srt _ Srt.nil) (putL_srt _ Srt.nil) (fun z => by rw [mem_putN hf, mem_putN (hf.sub (fun z hz => (h z).1 hz)), h])
theorem putL_turn {ps : List Pr} (hf : Fun ps) (k : Nat) : putL [] (ps.drop k ++ ps.take k) = putL [] ps :=
  putL_same hf (fun z => by
    rw [List.mem_append, or_comm, ← List.mem_append, List.take_append_drop])
theorem putL_more {ps : List Pr} (hf : Fun ps) : putL [] (ps ++ ps) = putL [] ps :=
  putL_same hf (fun z => by rw [List.mem_append, or_self])
end Go.Proofs.Ytellkcppgfghhaa
