/- An arena and the plain row, side by side: what a round of the comparison reads. -/
import Derived.Test.YtighdfmjmmphaaaBoth
import Derived.Test.YtighdfmjmmphaaaRc4
namespace Go.Proofs.Ytighdfmjmmphaaa
open Go.RowKit
set_option linter.unusedVariables false

theorem kept_box {wr w' : World} {d k id old now : Int} {sv : Value} (h : Kept (fun j => j = wr.heap.size) (wr.alloc (.cells #[.int .i64 d, .int .i64 k, .int .i64 id, .int .i64 old, .int .i64 now, sv] 31)) w') :
    w'.cell? ⟨wr.heap.size, 1, none⟩ = some (.int .i64 k) ∧ w'.cell? ⟨wr.heap.size, 2, none⟩ = some (.int .i64 id) ∧ w'.cell? ⟨wr.heap.size, 3, none⟩ = some (.int .i64 old) ∧ w'.cell? ⟨wr.heap.size, 4, none⟩ = some (.int .i64 now) ∧ w'.cell? ⟨wr.heap.size, 5, none⟩ = some sv :=
  ⟨(h.cell rfl).trans (by simp), (h.cell rfl).trans (by simp), (h.cell rfl).trans (by simp), (h.cell rfl).trans (by simp), (h.cell rfl).trans (by simp)⟩

theorem Both.free {w0 w : World} {p q : Nat} {X : Nat → Prop} {room st st2 : Int} {l l2 : List It} (h : Both w0 w p q X room st l st2 l2) : Both w0 w p q (fun _ => False) room st l st2 l2 := by
  obtain ⟨⟨F, G, a, r, h1, h2, h3⟩, b, x⟩ := h
  exact ⟨⟨F, G, a, r, h1, fun k hk => ⟨(h2 k hk).1, id⟩, fun k hk => ⟨(h3 k hk).1, id⟩⟩, b, fun k hk => hk.elim⟩

theorem br_make_ok {w0 w : World} {p q : Nat} {X : Nat → Prop} {room st st2 : Int} {l l2 : List It} (h : Both w0 w p q X room st l st2 l2) (k : Int) (vs : List Int) (ao : Option Addr) (c : Nat) (hv : Vals w0 ao c vs) (hk : 1 ≤ k) (hn : vs.length ≤ 12) (hr : (l2.length : Int) < room) :
    Calls Try.prog 14 #[.pointer (some ⟨q, 0, none⟩), .int .i64 k, .slice ao vs.length c] w fun e w' =>
      e = .returned (.tuple #[.int .i64 ((l2.length + 1 : Nat) : Int), .int .i64 0]) ∧ Both w0 w' p q X room st l st2 (l2 ++ [(k, vs)]) ∧ Kept X w w' :=
  both_r h fun G r hG => (rmake_ok k vs _ w q G room st2 l2 r hk hn hr (hv.ints h.b (fun b hb hf => by have := hG b hf; omega))).mono fun e w' hm => hm

/-- What the round's test reads of both. -/
theorem Both.tests {w0 w : World} {p q : Nat} {X : Nat → Prop} {room st st2 : Int} {l l2 : List It} (h : Both w0 w p q X room st l st2 l2) :
    ∃ F lo lc, Arena w p F room st l ∧ w.cell? ⟨q, 0, none⟩ = some (.int .i64 room) ∧ w.cell? ⟨q, 1, none⟩ = some (.slice lo l2.length lc) ∧ w.cell? ⟨q, 2, none⟩ = some (.int .i64 st2) := by
  obtain ⟨⟨F, G, a, r, _⟩, _, _⟩ := h
  obtain ⟨lv, ss, r, _⟩ := r
  obtain ⟨lo, lc, rfl, _, _⟩ := row_form r.rl
  exact ⟨F, lo, lc, a, r.c0, r.c1, r.c2⟩

end Go.Proofs.Ytighdfmjmmphaaa
