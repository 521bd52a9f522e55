/- What a map says of sorted pairs, operation by operation. No condition: definitions and lemmas. -/
import Derived.Test.YtipcjkfecppanaaLfN
import Derived.Test.YtipcjkfecppanaaLfO
import Derived.Maps.OwnSet
namespace Go.Proofs.Ytipcjkfecppanaa
open Go.RowKit Go.Maps
set_option linter.all false

theorem mI_under : Try.prog.underlying 40 = some (.map 3 3) := by kernel_rfl
theorem int_under : Try.prog.underlying 3 = some (.int .i64) := by kernel_rfl
theorem zeroI (w : World) : (zeroValue 3).run Try.prog w = .ok (.int .i64 0) w := by kernel_rfl
theorem lawI : Keyed Try.prog 3 := int_keyed int_under
abbrev DW := DataW Unit
def i64 (c : Int) : DW := .lit (.int .i64 c)
theorem i64_inj {a b : Int} (h : i64 a = i64 b) : a = b := by unfold i64 at h; injection h with h; injection h
def OwnI (W : World) (b n : Nat) (D : DW) : Prop := W.ownsMap Try.prog 3 (plainElem Try.prog 3) b n D
theorem OwnI.only {W W' : World} {b n : Nat} {D : DW} {S : Nat → Prop} (h : OwnI W b n D) (o : Only S W W') (hS : ¬ S b) : OwnI W' b n D := by
  have hlt : b < W.heap.size := World.ownsMap.lt h
  obtain ⟨es, clock, hb, F, hs, hD⟩ := h
  exact ⟨es, clock, (o.block b hlt hS).trans hb, F, hs, hD⟩
theorem OwnI.keep {W W' : World} {b n : Nat} {D : DW} (h : OwnI W b n D) (hb : Below W.heap.size W W') : OwnI W' b n D := h.only (S := fun _ => False) (Only.ofBelow hb) (fun h => h)
theorem OwnI.lt {W : World} {b n : Nat} {D : DW} (h : OwnI W b n D) : b < W.heap.size := World.ownsMap.lt h
theorem Only.grownBy {W W' : World} {b : Nat} (h : W.grownBy W' (some b)) : Only (fun j => j = b) W W' := (Only.refl _ _).grown h (fun k hk _ => by cases hk; rfl)
theorem prs_onlyB {W W' : World} {b : Nat} {a : Option Addr} {cap : Nat} {l : List Pr} (h : Prs W a cap l) (hne : ∀ x, a = some x → l ≠ [] → x.block ≠ b) (o : Only (fun j => j = b) W W') : Prs W' a cap l :=
  ⟨h.1, h.2.1, fun n q hq => by
    obtain ⟨g, of, rfl, h0, h1⟩ := h.2.2.1 n q hq
    have := hne _ rfl (fun e => by rw [e] at hq; simp at hq)
    exact ⟨g, of, rfl, o.cell h0 this, o.cell h1 this⟩, h.2.2.2⟩

/-- The map says just these pairs. -/
structure MI (D : DW) (l : List Pr) : Prop where
  at_ : ∀ k v, (k, v) ∈ l → has D (.int .i64 k) = true ∧ ∀ z, D.atKey (.int .i64 k) z = i64 v
  of : ∀ k, has D (.int .i64 k) = true → ∃ v, (k, v) ∈ l
  sz : Maps.size D = l.length
  tidy : Tidy D
theorem keyI (t : Int) : WideAt.IsKeyLit (.int .i64 t) := by trivial
theorem MI.nil : MI (.map []) [] := ⟨(fun k v h => (nomatch h)), (fun k h => (Bool.false_ne_true h).elim), rfl, ⟨[], rfl, List.Pairwise.nil⟩⟩
theorem int_ne {a b : Int} (h : a ≠ b) : (Lit.int .i64 a) ≠ Lit.int .i64 b := fun e => h (by injection e)
section
variable {D : DW} {l l' : List Pr} {k v : Int}
theorem MI.put (H : MI D l) (hm : ∀ z, z ∈ l' ↔ z = (k, v) ∨ (z ∈ l ∧ z.1 ≠ k)) (hl : l'.length = if has D (.int .i64 k) then l.length else l.length + 1) : MI (D.put (.int .i64 k) (i64 v)) l' := by
  refine ⟨fun k' v' h => ?_, fun k' h => ?_, ?_, H.tidy.put (keyI k) _⟩
  · rcases (hm _).1 h with e | ⟨h1, h2⟩
    · cases e
      exact ⟨has_put_same H.tidy.isMap (keyI k) _, fun z => atKey_put_same H.tidy.isMap (keyI k) _ z⟩
    · obtain ⟨x, y⟩ := H.at_ k' v' h1
      have hne := int_ne h2
      exact ⟨by rw [has_put_other hne]; exact x, fun z => by rw [atKey_put_other hne]; exact y z⟩
  · by_cases e : k' = k
    · subst e
      exact ⟨v, (hm _).2 (.inl rfl)⟩
    · rw [has_put_other (int_ne e)] at h
      obtain ⟨v', h'⟩ := H.of k' h
      exact ⟨v', (hm _).2 (.inr ⟨h', e⟩)⟩
  · rw [size_put H.tidy, H.sz, hl]
theorem MI.del (H : MI D l) (hm : ∀ z, z ∈ l' ↔ (z ∈ l ∧ z.1 ≠ k)) (hl : l'.length + (if has D (.int .i64 k) then 1 else 0) = l.length) : MI (D.del (.int .i64 k)) l' := by
  refine ⟨fun k' v' h => ?_, fun k' h => ?_, ?_, H.tidy.del _⟩
  · obtain ⟨h1, h2⟩ := (hm _).1 h
    obtain ⟨x, y⟩ := H.at_ k' v' h1
    have hne := int_ne h2
    exact ⟨by rw [has_del_other hne]; exact x, fun z => by rw [atKey_del_other hne]; exact y z⟩
  · by_cases e : k' = k
    · subst e
      rw [has_del_same] at h
      cases h
    · rw [has_del_other (int_ne e)] at h
      obtain ⟨v', h'⟩ := H.of k' h
      exact ⟨v', (hm _).2 ⟨h', e⟩⟩
  · have := size_del H.tidy (k := .int .i64 k)
    rw [H.sz] at this
    omega
theorem MI.had (H : MI D l) (k : Int) : (hadL l k).1 = has D (.int .i64 k) := by
  cases h : has D (.int .i64 k)
  · cases h2 : (hadL l k).1
    · rfl
    · obtain ⟨v, hv, _⟩ := hadL_some h2
      rw [(H.at_ k v hv).1] at h
      cases h
  · obtain ⟨v, hv⟩ := H.of k h
    cases h2 : (hadL l k).1
    · exact absurd rfl (hadL_none h2 _ hv)
    · rfl
end
theorem MI.next {D : DW} {l : List Pr} (hs : Srt l) {n : Nat} {k v : Int} (H : MI D (l.take n)) (hq : l[n]? = some (k, v)) : MI (D.put (.int .i64 k) (i64 v)) (l.take (n + 1)) := by
  have e : l.take (n + 1) = l.take n ++ [(k, v)] := by rw [List.take_succ, hq]; rfl
  have hno : ∀ z ∈ l.take n, z.1 ≠ k := fun z hz => by
    obtain ⟨i, hi, h⟩ := mem_take_at hz
    have := hs.at i n z _ hi h hq
    dsimp only at this
    omega
  rw [e]
  refine H.put (fun z => ?_) ?_
  · rw [List.mem_append, List.mem_singleton]
    constructor
    · rintro (h | h)
      · exact .inr ⟨h, hno z h⟩
      · exact .inl h
    · rintro (h | ⟨h, _⟩)
      · exact .inr h
      · exact .inl h
  · have : has D (.int .i64 k) = false := by
      cases h : has D (.int .i64 k)
      · rfl
      · obtain ⟨v', hv⟩ := H.of k h
        exact absurd rfl (hno _ hv)
    rw [this, List.length_append]
    rfl
section
variable {D : DW} {l : List Pr} (hs : Srt l) (H : MI D l) (k v : Int)
include hs H
theorem hasB_has : hasB l k (plN l k) = has D (.int .i64 k) := by
  rw [← H.had k]
  cases hB : hasB l k (plN l k)
  · rw [hadL_no hs (lo_pl hs k) hB]
  · obtain ⟨u, hq⟩ := hasB_yes hB
    rw [hadL_yes (lo_pl hs k) hq]
theorem MI.wth : MI (D.put (.int .i64 k) (i64 v)) (withL l k v) := by
  refine H.put (fun z => withL_in hs) ?_
  have e := with_at hs (lo_pl hs k) v
  have h2 := (lo_pl hs k).le
  have h3 := bh_le (lo_pl hs k)
  rw [hasB_has hs H k] at e h3
  rw [← e]
  simp only [List.length_append, List.length_take, List.length_drop, List.length_singleton]
  cases hh : has D (.int .i64 k) <;> rw [hh] at h3 <;> simp [bh] at h3 ⊢ <;> omega
theorem MI.cut : MI (D.del (.int .i64 k)) (cutL l k) := by
  refine H.del (fun z => cutL_mem) ?_
  have e := cut_at hs (lo_pl hs k)
  have h2 := (lo_pl hs k).le
  have h3 := bh_le (lo_pl hs k)
  rw [hasB_has hs H k] at e h3
  rw [← e]
  simp only [List.length_append, List.length_take, List.length_drop]
  cases hh : has D (.int .i64 k) <;> rw [hh] at h3 <;> simp [bh] at h3 ⊢ <;> omega
end
theorem rng_with {l : List Pr} (hs : Srt l) {k v : Int} (h : Rng l) (hk : (Lit.int .i64 k).wf = true) (hv : (Lit.int .i64 v).wf = true) : Rng (withL l k v) := fun z hz => by
  rcases (withL_in hs).1 hz with e | ⟨h1, _⟩
  · subst e; exact ⟨hk, hv⟩
  · exact h z h1
theorem rng_doP {l : List Pr} (hs : Srt l) {c k v : Int} (ho : okOp c) (h : Rng l) (hk : (Lit.int .i64 k).wf = true) (hv : (Lit.int .i64 v).wf = true) : Rng (doP l c k v) := by
  unfold doP
  split
  · exact h
  split
  · exact rng_with hs h hk hv
  split
  · split
    · exact h
    · exact rng_with hs h hk hv
  split
  · exact fun z hz => h z (cutL_mem.1 hz).1
  · exact h
end Go.Proofs.Ytipcjkfecppanaa
