/- How many pairs a tree has whose reading is of some bulk; each leaf set to stat nought. No condition: definitions and lemmas. -/
import Derived.Test.YtijepfabkalcoaaSlU
import Derived.Test.YtijepfabkalcoaaTrA
import Derived.Test.YtijepfabkalcoaaRows
namespace Go.Proofs.Ytijepfabkalcoaa
open Go.RowKit Go.Deep Go.ChangeShapes Go.WideShapes
set_option linter.all false
set_option maxRecDepth 20000

section
variable {H : Type} {enc : TypeId × Value → H} {w : World} {fuel : Nat} {x : DataW H × List MemPlace}
end
/-- What stands below a box stays. -/
theorem ns_rt {W : World} {q : Nat} {x : Int} {a' : Option Addr} {n' c' : Nat} (hq : Tq W q x a' n' c') {a : Option Addr} {cap : Nat} {N : List Nd} (h : Ns W a cap N) (u v : Value) : Ns ((W.setCell ⟨q, 0, none⟩ u).setCell ⟨q, 1, none⟩ v) a cap N := by
  refine ⟨h.1, h.2.1, fun i n hn => ?_⟩
  obtain ⟨b, o, pa, pc, e, hna⟩ := h.2.2 i n hn
  have hb : b ≠ q := fun e => by subst e; exact hq.nodes hna.c0
  have st : ∀ {j : Nat} {x : Value}, W.cell? ⟨b, j, none⟩ = some x → ((W.setCell ⟨q, 0, none⟩ u).setCell ⟨q, 1, none⟩ v).cell? ⟨b, j, none⟩ = some x := fun hc => setO (setO hc (.inl (fun e => hb e.symm))) (.inl (fun e => hb e.symm))
  refine ⟨b, o, pa, pc, e, st hna.c0, st hna.c1, st hna.c2, st hna.c3, st hna.c4, st hna.c5, hna.ps.1, hna.ps.2.1, fun k p hp => ?_, hna.ps.2.2.2⟩
  obtain ⟨b', o', e', p0, p1⟩ := hna.ps.2.2.1 k p hp
  have hb' : b' ≠ q := fun e => by subst e; exact hq.pairs p0 p1
  exact ⟨b', o', e', setO (setO p0 (.inl (fun e => hb' e.symm))) (.inl (fun e => hb' e.symm)), setO (setO p1 (.inl (fun e => hb' e.symm))) (.inl (fun e => hb' e.symm))⟩
theorem prs_rt {W : World} {q : Nat} {x : Int} {a' : Option Addr} {n' c' : Nat} (hq : Tq W q x a' n' c') {pa : Option Addr} {pc : Nat} {p : List Pr} (hp : Prs W pa pc p) (u v : Value) : Prs ((W.setCell ⟨q, 0, none⟩ u).setCell ⟨q, 1, none⟩ v) pa pc p := by
  refine ⟨hp.1, hp.2.1, fun k y hy => ?_, hp.2.2.2⟩
  obtain ⟨b', o', e', p0, p1⟩ := hp.2.2.1 k y hy
  have hb' : b' ≠ q := fun e => by subst e; exact hq.pairs p0 p1
  exact ⟨b', o', e', setO (setO p0 (.inl (fun e => hb' e.symm))) (.inl (fun e => hb' e.symm)), setO (setO p1 (.inl (fun e => hb' e.symm))) (.inl (fun e => hb' e.symm))⟩
theorem ri_rt {W : World} {q : Nat} {b : Nat} {o : Nat} {cap : Nat} {l : List Int} (h : RI W (some ⟨b, o, none⟩) cap l) (hb : b ≠ q) (u v : Value) : RI ((W.setCell ⟨q, 0, none⟩ u).setCell ⟨q, 1, none⟩ v) (some ⟨b, o, none⟩) cap l := by
  refine ⟨h.1, h.2.1, fun n x hx => ?_⟩
  obtain ⟨b', o', e', p0⟩ := h.2.2 n x hx
  cases e'
  exact ⟨b, o, rfl, setO (setO p0 (.inl (fun e => hb e.symm))) (.inl (fun e => hb e.symm))⟩
theorem tq_rt {W : World} {q : Nat} {x : Int} {a : Option Addr} {n c : Nat} (h : Tq W q x a n c) (x' : Int) (a' : Option Addr) (n' c' : Nat) : Tq ((W.setCell ⟨q, 0, none⟩ (.int .i64 x')).setCell ⟨q, 1, none⟩ (.slice a' n' c')) q x' a' n' c' := by
  refine Tq.set1 (a := a) (n := n) (c := c) ?_ a' n' c'
  unfold Tq World.setCell
  simp only [Array.getElem?_modify]
  rw [if_pos trivial, show W.heap[q]? = _ from h]; rfl
theorem ri_atK {W : World} {ao : Option Addr} {c : Nat} {l : List Nat} (h : RI W ao c (preI l)) {j i : Nat} (hj : l[j]? = some i) : ∃ b o, ao = some ⟨b, o, none⟩ ∧ W.cell? ⟨b, o + j, none⟩ = some (.int .i64 (i : Int)) := h.2.2 j _ (by unfold preI; rw [List.getElem?_map, hj]; rfl)
/-- The tree's box in the first loop; in the second. -/
structure J1 (w : World) (t : Int) (lb lo lc : Nat) (ls : List Nat) (a : Option Addr) (cap : Nat) (N : List Nd) (W : World) : Prop where
  q : Tq W w.heap.size t a N.length cap
  n : Ns W a cap N
  r : RI W (some ⟨lb, lo, none⟩) lc (preI ls)
  b : Below w.heap.size w W
theorem J1.keep {w : World} {t : Int} {lb lo lc : Nat} {ls : List Nat} {a : Option Addr} {cap : Nat} {N : List Nd} {W W' : World} (h : J1 w t lb lo lc ls a cap N W) (hb : Below W.heap.size W W') : J1 w t lb lo lc ls a cap N W' := ⟨h.q.keep hb, h.n.keep hb, h.r.below hb, bel2 h.b hb⟩
theorem J1.put {w : World} {t : Int} {lb lo lc : Nat} {ls : List Nat} {a : Option Addr} {cap : Nat} {N : List Nd} {W : World} (h : J1 w t lb lo lc ls a cap N W) (hl : lb ≠ w.heap.size) {a' : Option Addr} {cap' : Nat} {Q : List Nd} (hn : Ns W a' cap' Q) :
    J1 w t lb lo lc ls a' cap' Q ((W.setCell ⟨w.heap.size, 0, none⟩ (.int .i64 t)).setCell ⟨w.heap.size, 1, none⟩ (.slice a' Q.length cap')) :=
  ⟨tq_rt h.q _ _ _ _, ns_rt h.q hn _ _, ri_rt h.r hl _ _, ret_below h.b (Nat.le_refl _) _ _⟩
/-- What Set told stands in a box of its own. -/
structure F1 (w : World) (t : Int) (lb lo lc : Nat) (ls : List Nat) (a : Option Addr) (cap : Nat) (N : List Nd) (q : Nat) (a9 : Option Addr) (c9 : Nat) (Q : List Nd) (W : World) : Prop where
  j : J1 w t lb lo lc ls a cap N W
  z : Tq W q t a9 Q.length c9
  n : Ns W a9 c9 Q
structure J2 (w : World) (pb : Nat) (aw : Option Addr) (cw : Nat) (L : List Pr) (t : Int) (a : Option Addr) (cap : Nat) (N : List Nd) (W : World) : Prop where
  q : Tq W w.heap.size t a N.length cap
  n : Ns W a cap N
  p : Prs W aw cw L
  o : Bk W pb [.int .i64 1000, .int .i64 0, .int .i64 0, .int .i64 1, .int .i64 0]
  lt : w.heap.size < pb
  b : Below w.heap.size w W
theorem J2.keep {w : World} {pb : Nat} {aw : Option Addr} {cw : Nat} {L : List Pr} {t : Int} {a : Option Addr} {cap : Nat} {N : List Nd} {W W' : World} (h : J2 w pb aw cw L t a cap N W) (hb : Below W.heap.size W W') : J2 w pb aw cw L t a cap N W' := ⟨h.q.keep hb, h.n.keep hb, h.p.below hb, h.o.keep hb, h.lt, bel2 h.b hb⟩
theorem J2.put {w : World} {pb : Nat} {aw : Option Addr} {cw : Nat} {L : List Pr} {t : Int} {a : Option Addr} {cap : Nat} {N : List Nd} {W : World} (h : J2 w pb aw cw L t a cap N W) (t' : Int) {a' : Option Addr} {cap' : Nat} {Q : List Nd} (hn : Ns W a' cap' Q) :
    J2 w pb aw cw L t' a' cap' Q ((W.setCell ⟨w.heap.size, 0, none⟩ (.int .i64 t')).setCell ⟨w.heap.size, 1, none⟩ (.slice a' Q.length cap')) :=
  ⟨tq_rt h.q _ _ _ _, ns_rt h.q hn _ _, prs_rt h.q h.p _ _, (h.o.other _ (by have := h.lt; omega)).other _ (by have := h.lt; omega), h.lt, ret_below h.b (Nat.le_refl _) _ _⟩
end Go.Proofs.Ytijepfabkalcoaa

