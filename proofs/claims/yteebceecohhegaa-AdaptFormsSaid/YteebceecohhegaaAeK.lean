/- A tree in its box that becomes another one; places drawn of halves. No condition: lemmas. -/
import Derived.Test.YteebceecohhegaaAeL
namespace Go.Proofs.Yteebceecohhegaa
open Go.RowKit
set_option linter.all false

/-- int(uint64(a) / 2 % uint64(d)). -/
theorem umod2 (a d : Int) (h : 0 < d) (h2 : d ≤ 9223372036854775807) : ∃ m : Nat, (m : Int) < d ∧ wrap64 ((IntKind.u64.wrap ((IntKind.u64.wrap a).tdiv 2)).tmod d) = m := by
  obtain ⟨b, hb⟩ : ∃ b, (IntKind.u64.wrap a).tdiv 2 = b := ⟨_, rfl⟩
  rw [hb]
  exact umod b d h h2
section
variable {W W' : World} {q : Nat} {x : Int} {a : Option Addr} {n c : Nat}
theorem Tq.set2 (h : Tq W q x a n c) (x' : Int) (a' : Option Addr) (n' c' : Nat) : Tq ((W.setCell ⟨q, 0, none⟩ (.int .i64 x')).setCell ⟨q, 1, none⟩ (.slice a' n' c')) q x' a' n' c' := by
  unfold Tq World.setCell
  simp only [Array.getElem?_modify]
  rw [if_pos trivial, if_pos trivial, show W.heap[q]? = _ from h]; rfl
theorem Tq.ns2 (hq : Tq W q x a n c) {a' : Option Addr} {cap : Nat} {N : List Nd} (h : Ns W a' cap N) (u v : Value) : Ns ((W.setCell ⟨q, 0, none⟩ u).setCell ⟨q, 1, none⟩ v) a' cap N := by
  refine ⟨h.1, h.2.1, fun i n hn => ?_⟩
  obtain ⟨b, o, pa, pc, e, hna⟩ := h.2.2 i n hn
  have hb : b ≠ q := fun e => by subst e; exact hq.nodes hna.c0
  have st : ∀ {j : Nat} {x : Value}, W.cell? ⟨b, j, none⟩ = some x → ((W.setCell ⟨q, 0, none⟩ u).setCell ⟨q, 1, none⟩ v).cell? ⟨b, j, none⟩ = some x := fun hc => setO (setO hc (.inl (fun e => hb e.symm))) (.inl (fun e => hb e.symm))
  refine ⟨b, o, pa, pc, e, st hna.c0, st hna.c1, st hna.c2, st hna.c3, st hna.c4, st hna.c5, hna.ps.1, hna.ps.2.1, fun k p hp => ?_, hna.ps.2.2.2⟩
  obtain ⟨b', o', e', p0, p1⟩ := hna.ps.2.2.1 k p hp
  have hb' : b' ≠ q := fun e => by subst e; exact hq.pairs p0 p1
  exact ⟨b', o', e', setO (setO p0 (.inl (fun e => hb' e.symm))) (.inl (fun e => hb' e.symm)), setO (setO p1 (.inl (fun e => hb' e.symm))) (.inl (fun e => hb' e.symm))⟩
theorem Tq.prs2 (h : Tq W q x a n c) {pa : Option Addr} {pc : Nat} {p : List Pr} (hp : Prs W pa pc p) (u v : Value) : Prs ((W.setCell ⟨q, 0, none⟩ u).setCell ⟨q, 1, none⟩ v) pa pc p := by
  refine ⟨hp.1, hp.2.1, fun k y hy => ?_, hp.2.2.2⟩
  obtain ⟨b', o', e', p0, p1⟩ := hp.2.2.1 k y hy
  have hb' : b' ≠ q := fun e => by subst e; exact h.pairs p0 p1
  exact ⟨b', o', e', setO (setO p0 (.inl (fun e => hb' e.symm))) (.inl (fun e => hb' e.symm)), setO (setO p1 (.inl (fun e => hb' e.symm))) (.inl (fun e => hb' e.symm))⟩
end
/-- The tree as it is now, and the pairs that it had. -/
structure Kp (w : World) (A : List Pr) (aw : Option Addr) (cw : Nat) (W : World) (t : Int) (a : Option Addr) (cap : Nat) (N : List Nd) : Prop where
  q : Tq W w.heap.size t a N.length cap
  n : Ns W a cap N
  p : Prs W aw cw A
  b : Below w.heap.size w W
section
variable {w W W' : World} {A : List Pr} {aw : Option Addr} {cw : Nat} {t : Int} {a : Option Addr} {cap : Nat} {N : List Nd}
theorem Kp.keep (h : Kp w A aw cw W t a cap N) (hb : Below W.heap.size W W') : Kp w A aw cw W' t a cap N := ⟨h.q.keep hb, h.n.keep hb, h.p.below hb, bel2 h.b hb⟩
theorem Kp.move (h : Kp w A aw cw W t a cap N) {t' : Int} {a' : Option Addr} {cap' : Nat} {M : List Nd} (hn : Ns W a' cap' M) {n : Nat} (e : n = M.length) : Kp w A aw cw ((W.setCell ⟨w.heap.size, 0, none⟩ (.int .i64 t')).setCell ⟨w.heap.size, 1, none⟩ (.slice a' n cap')) t' a' cap' M := by
  subst e
  exact ⟨h.q.set2 _ _ _ _, h.q.ns2 hn _ _, h.q.prs2 h.p _ _, ret_below h.b (Nat.le_refl _) _ _⟩
end
theorem Kp.put {w W : World} {A : List Pr} {aw : Option Addr} {cw : Nat} {t : Int} {a : Option Addr} {cap : Nat} {N : List Nd} (h : Kp w A aw cw W t a cap N) {q : Nat} (hr : Rq W q) (hq : w.heap.size < q) (u v : Value) : Kp w A aw cw ((W.setCell ⟨q, 0, none⟩ u).setCell ⟨q, 1, none⟩ v) t a cap N := by
  have hO : Only (fun j => j = q) W ((W.setCell ⟨q, 0, none⟩ u).setCell ⟨q, 1, none⟩ v) := ((Only.refl _ W).setCell (S := fun j => j = q) (p := ⟨q, 0, none⟩) (.inl rfl) _).setCell (S := fun j => j = q) (p := ⟨q, 1, none⟩) (.inl rfl) _
  exact ⟨h.q.only hO (fun e => by have : w.heap.size = q := e; omega), hr.ns2 h.n _ _, hr.prs2 h.p _ _, ret_below h.b (by omega) _ _⟩
/-- The tree as it is, and another one in a box beside it. -/
structure Kq (w : World) (A : List Pr) (aw : Option Addr) (cw : Nat) (W : World) (t : Int) (a : Option Addr) (cap : Nat) (N : List Nd) (q : Nat) (a' : Option Addr) (cap' : Nat) (M : List Nd) : Prop where
  k : Kp w A aw cw W t a cap N
  z : Tq W q 0 a' M.length cap'
  m : Ns W a' cap' M
theorem Kq.keep {w W W' : World} {A : List Pr} {aw : Option Addr} {cw : Nat} {t : Int} {a : Option Addr} {cap : Nat} {N : List Nd} {q : Nat} {a' : Option Addr} {cap' : Nat} {M : List Nd} (h : Kq w A aw cw W t a cap N q a' cap' M) (hb : Below W.heap.size W W') : Kq w A aw cw W' t a cap N q a' cap' M := ⟨h.k.keep hb, h.z.keep hb, h.m.keep hb⟩
theorem Kq.new {w W : World} {A : List Pr} {aw : Option Addr} {cw : Nat} {t : Int} {a : Option Addr} {cap : Nat} {N : List Nd} {q : Nat} {a' : Option Addr} {cap' : Nat} {M : List Nd} (h : Kp w A aw cw W t a cap N) (hr : Rq W q) (hq : w.heap.size < q) (hm : Ns W a' cap' M) :
    Kq w A aw cw ((W.setCell ⟨q, 0, none⟩ (.int .i64 0)).setCell ⟨q, 1, none⟩ (.slice a' M.length cap')) t a cap N q a' cap' M := ⟨h.put hr hq _ _, hr.set2 _ _ _ _, hr.ns2 hm _ _⟩
/-- What a tree is in the loop: as many pairs, so many nodes. -/
structure Gd (A : List Pr) (B : Nat) (t : Int) (N : List Nd) (s : Sh) : Prop where
  t : Tr N s t
  a : allP N s.lvs = A
  l : N.length ≤ B
  k : A.length ≤ 2000
theorem Gd.small {A : List Pr} {B : Nat} {t : Int} {N : List Nd} {s : Sh} (h : Gd A B t N s) : Small N := tr_small h.t (by rw [h.a]; have := h.k; omega) h.t.le
theorem Gd.more {A : List Pr} {n : Nat} {t : Int} {N : List Nd} {s : Sh} (h : Gd A (450 + 2 * n) t N s) : Gd A (450 + 2 * (n + 1)) t N s := ⟨h.t, h.a, by have := h.l; omega, h.k⟩
theorem Gd.split {A : List Pr} {n : Nat} {t : Int} {N : List Nd} {s : Sh} (h : Gd A (450 + 2 * n) t N s) {y : Int} {Q : List Nd} (hS : SplO N t y true Q) : ∃ s', Gd A (450 + 2 * (n + 1)) 0 Q s' ∧ s'.lvs.length = s.lvs.length + 1 := by
  obtain ⟨s1, i, s', h1, _, _, _, h3, h4, h5, h6⟩ := SplO.is hS
  obtain rfl := h1.1.uniq h.t
  exact ⟨s', ⟨h3, by rw [h4, h.a], by have := h.l; omega, h.k⟩, h5⟩
theorem Gd.join {A : List Pr} {n : Nat} {t : Int} {N : List Nd} {s : Sh} (h : Gd A (450 + 2 * n) t N s) {y : Int} {Q : List Nd} (hS : JoiO N t y true Q) : ∃ s', Gd A (450 + 2 * (n + 1)) 0 Q s' ∧ s'.lvs.length + 1 = s.lvs.length := by
  obtain ⟨s1, i, T, s', h1, _, _, _, _, h3, h4, h5, h6⟩ := JoiO.is hS
  obtain rfl := h1.1.uniq h.t
  exact ⟨s', ⟨h3, by rw [h4, h.a], by have := h.l; omega, h.k⟩, h5⟩
end Go.Proofs.Yteebceecohhegaa
