/- A tree in its box that becomes another one; places drawn of halves. No condition: lemmas. -/
import Derived.Test.YtpdliokpbnpppaaGreatAeL
namespace Go.Proofs.YtpdliokpbnpppaaGreat
open Go.RowKit
set_option linter.all false
section
variable {W W' : World} {q : Nat} {x : Int} {a : Option Addr} {n c : Nat}
theorem Tq.set2 (h : Tq W q x a n c) (x' : Int) (a' : Option Addr) (n' c' : Nat) : Tq ((W.setCell ⟨q, 0, none⟩ (.int .i64 x')).setCell ⟨q, 1, none⟩ (.slice a' n' c')) q x' a' n' c' := by
 unfold Tq World.setCell
 simp only [Array.getElem?_modify]
 rw [if_pos trivial, if_pos trivial, show W.heap[q]? = _ from h]; rfl
theorem Tq.ns2 (hq : Tq W q x a n c) {a' : Option Addr} {cap : Nat} {N : List Nd} (h : Ns W a' cap N) (u v : Value) : Ns ((W.setCell ⟨q, 0, none⟩ u).setCell ⟨q, 1, none⟩ v) a' cap N := by
 refine ⟨h.1, h.2.1, fun i n hn => ?_⟩
 obtain ⟨b, o, pa, pc, e, hna⟩ := h.2.2 i n hn
 have hb : b ≠ q := fun e => by subst e; exact hq.nodes hna.c0
 have st : ∀ {j : Nat} {x : Value}, W.cell? ⟨b, j, none⟩ = some x → ((W.setCell ⟨q, 0, none⟩ u).setCell ⟨q, 1, none⟩ v).cell? ⟨b, j, none⟩ = some x := fun hc => setO (setO hc (.inl (fun e => hb e.symm))) (.inl (fun e => hb e.symm))
 refine ⟨b, o, pa, pc, e, st hna.c0, st hna.c1, st hna.c2, st hna.c3, st hna.c4, st hna.c5, hna.ps.1, hna.ps.2.1, fun k p hp => ?_, hna.ps.2.2.2⟩
 obtain ⟨b', o', e', p0, p1⟩ := hna.ps.2.2.1 k p hp
 have hb' : b' ≠ q := fun e => by subst e; exact hq.pairs p0 p1
 exact ⟨b', o', e', setO (setO p0 (.inl (fun e => hb' e.symm))) (.inl (fun e => hb' e.symm)), setO (setO p1 (.inl (fun e => hb' e.symm))) (.inl (fun e => hb' e.symm))⟩
theorem Tq.prs2 (h : Tq W q x a n c) {pa : Option Addr} {pc : Nat} {p : List Pr} (hp : Prs W pa pc p) (u v : Value) : Prs ((W.setCell ⟨q, 0, none⟩ u).setCell ⟨q, 1, none⟩ v) pa pc p := by
 refine ⟨hp.1, hp.2.1, fun k y hy => ?_, hp.2.2.2⟩
 obtain ⟨b', o', e', p0, p1⟩ := hp.2.2.1 k y hy
 have hb' : b' ≠ q := fun e => by subst e; exact h.pairs p0 p1
 exact ⟨b', o', e', setO (setO p0 (.inl (fun e => hb' e.symm))) (.inl (fun e => hb' e.symm)), setO (setO p1 (.inl (fun e => hb' e.symm))) (.inl (fun e => hb' e.symm))⟩
end
section
variable {w W W' : World} {A : List Pr} {aw : Option Addr} {cw : Nat} {t : Int} {a : Option Addr} {cap : Nat} {N : List Nd}
end
end Go.Proofs.YtpdliokpbnpppaaGreat
