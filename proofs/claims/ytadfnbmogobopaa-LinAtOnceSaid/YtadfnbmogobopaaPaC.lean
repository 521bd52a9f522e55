/- osierref18.MayPast exactly. No condition: lemmas. -/
import Derived.Test.YtadfnbmogobopaaPaB
import Derived.Deep.RegionHeld3
import Derived.Deep.CutRange
import Derived.Deep.CutBlock
import Derived.Deep.RegionLaw
namespace Go.Proofs.Ytadfnbmogobopaa
open Go.RowKit
set_option linter.all false
set_option maxRecDepth 20000


/-- The loop of osierref18.MayPast. -/
structure RM (w0 : World) (N : List EvD) (n : Nat) (s : Mt) (W : World) : Prop where
  m : mtc N n = some s
  on : ∀ t : Nat, t < 6 → W.cell? ⟨w0.heap.size, t, none⟩ = some (.bool (decide (0 < s.x (t : Int))))
  f1 : ∀ j, W.frozen? ⟨w0.heap.size, j, none⟩ = false
  ops : ∀ t : Nat, t < 6 → ∃ o : OpD, W.cell? ⟨w0.heap.size + 1, t * 4, none⟩ = some (.int .i64 o.c) ∧ W.cell? ⟨w0.heap.size + 1, t * 4 + 1, none⟩ = some (.int .i64 o.k) ∧ W.cell? ⟨w0.heap.size + 1, t * 4 + 2, none⟩ = some (.int .i64 o.h) ∧ W.cell? ⟨w0.heap.size + 1, t * 4 + 3, none⟩ = some (.int .i64 o.v) ∧ (0 < s.x (t : Int) → o = (s.c (s.x (t : Int))).o)
  f2 : ∀ j, W.frozen? ⟨w0.heap.size + 1, j, none⟩ = false
  lt : w0.heap.size + 1 < W.heap.size
  be : Below w0.heap.size w0 W
theorem RM.keep {w0 W W' : World} {N : List EvD} {n : Nat} {s : Mt} (h : RM w0 N n s W) (hb : Below W.heap.size W W') : RM w0 N n s W' :=
  ⟨h.m, fun t ht => pkc hb (h.on t ht), fun j => (hb.frozen (p := ⟨w0.heap.size, j, none⟩) (by have := h.lt; show w0.heap.size < _; omega)).trans (h.f1 j), fun t ht => by
    obtain ⟨o, a, b, c, d, e⟩ := h.ops t ht
    exact ⟨o, pkc hb a, pkc hb b, pkc hb c, pkc hb d, e⟩, fun j => (hb.frozen (p := ⟨w0.heap.size + 1, j, none⟩) (by have := h.lt; show w0.heap.size + 1 < _; omega)).trans (h.f2 j), Nat.lt_of_lt_of_le h.lt hb.size, pb2 h.be hb⟩
/-- The five cells that a round writes. -/
def W5 (W : World) (g t : Nat) (b : Bool) (o : OpD) : World :=
  ((((W.setCell ⟨g, t, none⟩ (.bool b)).setCell ⟨g + 1, t * 4, none⟩ (.int .i64 o.c)).setCell ⟨g + 1, t * 4 + 1, none⟩ (.int .i64 o.k)).setCell ⟨g + 1, t * 4 + 2, none⟩ (.int .i64 o.h)).setCell ⟨g + 1, t * 4 + 3, none⟩ (.int .i64 o.v)
theorem RM.put {w0 W : World} {N : List EvD} {n : Nat} {s s' : Mt} (h : RM w0 N n s W) (t : Nat) (ht : t < 6) (b : Bool) (o : OpD) (hm : mtc N (n + 1) = some s')
    (hx : ∀ u : Nat, u < 6 → u ≠ t → s'.x (u : Int) = s.x (u : Int) ∧ (0 < s.x (u : Int) → s'.c (s.x (u : Int)) = s.c (s.x (u : Int)))) (hb : b = decide (0 < s'.x (t : Int))) (ho : 0 < s'.x (t : Int) → o = (s'.c (s'.x (t : Int))).o) :
    RM w0 N (n + 1) s' (W5 W w0.heap.size t b o) := by
  have one : ∀ {W2 : World} (g j : Nat) (u : Value), Below w0.heap.size w0 W2 → w0.heap.size ≤ g → Below w0.heap.size w0 (W2.setCell ⟨g, j, none⟩ u) := fun g j u hb hg => Below.setCell hb hg _
  have ne : ∀ {W2 : World} {b j b' k : Nat} {u v : Value}, W2.cell? ⟨b, j, none⟩ = some v → (b' ≠ b ∨ k ≠ j) → (W2.setCell ⟨b', k, none⟩ u).cell? ⟨b, j, none⟩ = some v := fun h hne => psetO h hne
  refine ⟨hm, fun u hu => ?_, fun j => by unfold W5; simp only [World.frozen?_setCell]; exact h.f1 j, fun u hu => ?_, fun j => by unfold W5; simp only [World.frozen?_setCell]; exact h.f2 j, by have := h.lt; unfold W5; simpa [World.setCell] using this, ?_⟩
  · unfold W5
    have h0 := h.on u hu
    refine ne (ne (ne (ne ?_ (.inl (by omega))) (.inl (by omega))) (.inl (by omega))) (.inl (by omega))
    by_cases e : t = u
    · subst e; rw [← hb]; exact psetS h0
    · rw [(hx u hu (fun x => e x.symm)).1]; exact ne h0 (.inr e)
  · unfold W5
    obtain ⟨o', c0, c1, c2, c3, c4⟩ := h.ops u hu
    have d0 := ne (b' := w0.heap.size) (k := t) (u := .bool b) c0 (.inl (by omega))
    have d1 := ne (b' := w0.heap.size) (k := t) (u := .bool b) c1 (.inl (by omega))
    have d2 := ne (b' := w0.heap.size) (k := t) (u := .bool b) c2 (.inl (by omega))
    have d3 := ne (b' := w0.heap.size) (k := t) (u := .bool b) c3 (.inl (by omega))
    by_cases e : t = u
    · subst e
      refine ⟨o, ne (ne (ne (psetS d0) (.inr (by omega))) (.inr (by omega))) (.inr (by omega)), ne (ne (psetS (ne d1 (.inr (by omega)))) (.inr (by omega))) (.inr (by omega)), ne (psetS (ne (ne d2 (.inr (by omega))) (.inr (by omega)))) (.inr (by omega)), psetS (ne (ne (ne d3 (.inr (by omega))) (.inr (by omega))) (.inr (by omega))), ho⟩
    · obtain ⟨x1, x2⟩ := hx u hu (fun x => e x.symm)
      refine ⟨o', ne (ne (ne (ne d0 (.inr (by omega))) (.inr (by omega))) (.inr (by omega))) (.inr (by omega)), ne (ne (ne (ne d1 (.inr (by omega))) (.inr (by omega))) (.inr (by omega))) (.inr (by omega)), ne (ne (ne (ne d2 (.inr (by omega))) (.inr (by omega))) (.inr (by omega))) (.inr (by omega)), ne (ne (ne (ne d3 (.inr (by omega))) (.inr (by omega))) (.inr (by omega))) (.inr (by omega)), fun h0 => ?_⟩
      rw [x1] at h0 ⊢
      rw [x2 h0]; exact c4 h0
  · unfold W5
    exact one _ _ _ (one _ _ _ (one _ _ _ (one _ _ _ (one _ _ _ h.be (Nat.le_refl _)) (by omega)) (by omega)) (by omega)) (by omega)
theorem okT_nat {u : Nat} (h : u < 6) : okT (u : Int) := by unfold okT; omega
theorem RM.beg {w0 W : World} {N : List EvD} {n : Nat} {s : Mt} (h : RM w0 N n s W) (t : Nat) (ht : t < 6) (e : EvD) (he : e.t = (t : Int)) (hm : mtc N (n + 1) = some (s.beg n e)) : RM w0 N (n + 1) (s.beg n e) (W5 W w0.heap.size t true e.o) := by
  have I := minv N n s h.m
  have hxt : (s.beg n e).x (t : Int) = s.l.length + 1 := by unfold Mt.beg; rw [he]; exact x_set_same I.len (okT_nat ht) _ _
  refine h.put t ht true e.o hm (fun u hu hne => ⟨?_, fun h0 => ?_⟩) (by rw [hxt]; simp) (fun _ => ?_)
  · unfold Mt.beg; rw [he]; exact x_set_other (okT_nat ht) (okT_nat hu) (by omega) _ _
  · rcases I.wt u (okT_nat hu) with ⟨a, _⟩ | ⟨i, c, h1, h2, _⟩
    · omega
    · rw [h1, c_at h2]
      refine c_at ?_
      unfold Mt.beg
      simp only
      rw [List.getElem?_append_left (List.getElem?_eq_some_iff.1 h2).1]; exact h2
  · rw [hxt]
    have : (s.beg n e).c (s.l.length + 1) = ⟨e.t, (n : Int), -1, e.o, zAd⟩ := c_at (by unfold Mt.beg; simp)
    rw [this]
theorem RM.ret {w0 W : World} {N : List EvD} {n : Nat} {s : Mt} (h : RM w0 N n s W) (t : Nat) (ht : t < 6) (e : EvD) (he : e.t = (t : Int)) (h0 : 0 < s.x (t : Int)) (hm : mtc N (n + 1) = some (s.ret n e)) : RM w0 N (n + 1) (s.ret n e) (W5 W w0.heap.size t false e.o) := by
  have I := minv N n s h.m
  have hxt : (s.ret n e).x (t : Int) = 0 := by unfold Mt.ret; rw [he]; exact x_set_same I.len (okT_nat ht) _ _
  refine h.put t ht false e.o hm (fun u hu hne => ⟨?_, fun h1 => ?_⟩) (by rw [hxt]; simp) (fun x => by rw [hxt] at x; omega)
  · unfold Mt.ret; rw [he]; exact x_set_other (okT_nat ht) (okT_nat hu) (by omega) _ _
  · rcases I.wt u (okT_nat hu) with ⟨a, _⟩ | ⟨i, c, h2, h3, h4, _⟩
    · omega
    · rcases I.wt t (okT_nat ht) with ⟨a, _⟩ | ⟨j, d, g2, g3, g4, _⟩
      · omega
      · rw [h2, c_at h3]
        refine c_at ?_
        unfold Mt.ret
        rw [he, g2]
        simp only
        have : ¬ j = i := fun e' => by subst e'; rw [h3] at g3; cases g3; omega
        rw [Nat.add_sub_cancel, List.getElem?_set_ne this]; exact h3

end Go.Proofs.Ytadfnbmogobopaa
