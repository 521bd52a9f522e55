/- An arena that a law holds since the world w0: all its blocks are new since then, and nothing older has turned; each call of the arena in these words. -/
import Derived.Test.YtmbeaefgakfbnaaAc5
namespace Go.Proofs.Ytmbeaefgakfbnaa
open Go.RowKit
set_option linter.unusedVariables false

structure Held (w0 w : World) (p : Nat) (room st : Int) (l : List It) : Prop where
  a : Arena w p (fun k => w0.heap.size ≤ k) room st l
  b : Below w0.heap.size w0 w

section
variable {w0 w w' : World} {p : Nat} {room st : Int} {l : List It}

theorem Held.below (h : Held w0 w p room st l) (hb : Below w.heap.size w w') : Held w0 w' p room st l := ⟨h.a.below hb, h.b.trans (hb.mono h.b.size)⟩
theorem Held.alloc (h : Held w0 w p room st l) (o : Obj) : Held w0 (w.alloc o) p room st l := h.below ((Below.refl _ _).alloc (Nat.le_refl _) _)
theorem Held.drewN (h : Held w0 w p room st l) (n : Nat) : Held w0 (w.drewN n) p room st l := h.below (below_drewN (Below.refl _ _) _)
theorem Held.only {st' : Int} {l' : List It} {G : Nat → Prop} (h : Held w0 w p room st l) (ha : Arena w' p (Plus G w w') room st' l') (ho : Only G w w') (hG : ∀ k, G k → w0.heap.size ≤ k) : Held w0 w' p room st' l' :=
  ⟨ha.mono (fun k hk hlt => by
    rcases hk with hk | hk
    · exact hG k hk
    · exact Nat.le_trans h.b.size hk.1), h.b.trans (ho.below hG h.b.size)⟩
theorem Held.moved {st' : Int} {l' : List It} (h : Held w0 w p room st l) (hm : Moved w p (fun k => w0.heap.size ≤ k) room st' l' w') : Held w0 w' p room st' l' :=
  ⟨hm.1, h.b.trans (hm.2.below (fun _ hi => hi) h.b.size)⟩
theorem Held.old (h : Held w0 w p room st l) {b o : Nat} {v : Value} (hc : w0.cell? ⟨b, o, none⟩ = some v) : w.cell? ⟨b, o, none⟩ = some v :=
  (h.b.cell (p := ⟨b, o, none⟩) (World.block_lt_of_cell? w0 _ hc)).trans hc
end

section
variable {w0 w : World} {p : Nat} {room st : Int} {l : List It}

theorem new_held (r r' : Int) (w0 w : World) (h : Below w0.heap.size w0 w) (hr : min (max r 0) 60000 = r') :
    Calls Try.prog 8 #[.int .i64 r] w fun e w' => ∃ p, e = .returned (.pointer (some ⟨p, 0, none⟩)) ∧ Held w0 w' p r' 0 [] :=
  (new_any r w).mono fun e w' ⟨he, hw⟩ => ⟨w.heap.size, he, by
    subst hw; subst hr
    exact ⟨(new_arena _ w (by omega) (by omega)).mono (fun k hk _ => by subst hk; exact h.size), h.alloc h.size _⟩⟩

theorem used_held (h : Held w0 w p room st l) (n : Int) (hn : n = l.length) :
    Calls Try.prog 10 #[.pointer (some ⟨p, 0, none⟩)] w fun e w' => e = .returned (.int .i64 n) ∧ w = w' := by
  subst hn; exact used_any w p _ room st l h.a
theorem steps_held (h : Held w0 w p room st l) :
    Calls Try.prog 17 #[.pointer (some ⟨p, 0, none⟩)] w fun e w' => e = .returned (.int .i64 st) ∧ w = w' := steps_any w p _ room st l h.a
theorem room_held (h : Held w0 w p room st l) (n : Int) (hn : n = room - l.length) :
    Calls Try.prog 45 #[.pointer (some ⟨p, 0, none⟩)] w fun e w' => e = .returned (.int .i64 n) ∧ Held w0 w' p room st l := by
  subst hn
  exact (room_any w p _ room st l h.a).mono fun e w' ⟨he, n, hw⟩ => ⟨he, by subst hw; exact h.drewN n⟩
theorem kind_held (h : Held w0 w p room st l) (id n : Int) (hn : kindL l id = n) :
    Calls Try.prog 38 #[.pointer (some ⟨p, 0, none⟩), .int .i64 id] w fun e w' => e = .returned (.int .i64 n) ∧ Held w0 w' p room st l := by
  subst hn
  exact (kind_any id w p _ room st l h.a).mono fun e w' ⟨he, hb⟩ => ⟨he, h.below hb⟩
theorem val_held (h : Held w0 w p room st l) (id i n : Int) (hn : valL l id i = n) :
    Calls Try.prog 39 #[.pointer (some ⟨p, 0, none⟩), .int .i64 id, .int .i64 i] w fun e w' => e = .returned (.int .i64 n) ∧ Held w0 w' p room st l := by
  subst hn
  exact (val_any id i w p _ room st l h.a).mono fun e w' ⟨he, hb⟩ => ⟨he, h.below hb⟩

theorem make_held_full (h : Held w0 w p room st l) (k : Int) (ao : Option Addr) (n c : Nat) (hk : 1 ≤ k) (hn : n ≤ 12) (hr : room = l.length) :
    Calls Try.prog 33 #[.pointer (some ⟨p, 0, none⟩), .int .i64 k, .slice ao n c] w fun e w' => e = .returned (.tuple #[.int .i64 0, .int .i64 2]) ∧ Held w0 w' p room st l :=
  (make_full k ao n c w p _ room st l h.a hk hn hr).mono fun e w' ⟨he, hb⟩ => ⟨he, h.below hb⟩
theorem make_held_arg (h : Held w0 w p room st l) (k : Int) (ao : Option Addr) (n c : Nat) (hn : n ≤ maxLen) (hk : k < 1 ∨ 12 < n) :
    Calls Try.prog 33 #[.pointer (some ⟨p, 0, none⟩), .int .i64 k, .slice ao n c] w fun e w' => e = .returned (.tuple #[.int .i64 0, .int .i64 1]) ∧ w = w' :=
  make_arg k ao n c w p hn hk
/-- Make of values that lay in memory before w0. -/
theorem make_held (h : Held w0 w p room st l) (k : Int) (vs : List Int) (x : Value) (n : Int) (l' : List It) (hk : 1 ≤ k) (hv : vs.length ≤ 12) (hx : Ints (fun k => w0.heap.size ≤ k) w x vs) (hr : (l.length : Int) < room) (hn : n = l.length + 1) (hl : l' = l ++ [(k, vs)]) :
    Calls Try.prog 33 #[.pointer (some ⟨p, 0, none⟩), .int .i64 k, x] w fun e w' => e = .returned (.tuple #[.int .i64 n, .int .i64 0]) ∧ Held w0 w' p room st l' := by
  subst hn; subst hl
  exact (make_ok k vs x w p _ room st l h.a hk hv hr hx).mono fun e w' ⟨he, ha, ho⟩ => ⟨by rw [he]; simp, h.only ha ho (fun _ hk => hk)⟩
/-- Make of values that the caller writes out: they lie in a new block. -/
theorem make_lit (h : Held w0 w p room st l) (k : Int) (vs : List Int) (cs : Array Value) (m : Nat) (n : Int) (l' : List It) (hk : 1 ≤ k) (hv : vs.length ≤ 12) (hm : vs.length = m) (hcs : cs = (vs.map (Value.int .i64)).toArray) (hr : (l.length : Int) < room) (hn : n = l.length + 1) (hl : l' = l ++ [(k, vs)]) :
    Calls Try.prog 33 #[.pointer (some ⟨p, 0, none⟩), .int .i64 k, .slice (some ⟨w.heap.size, 0, none⟩) m m] (w.alloc (.cells cs 3)) fun e w' => e = .returned (.tuple #[.int .i64 n, .int .i64 0]) ∧ Held w0 w' p room st l' := by
  subst hn; subst hl; subst hm; subst hcs
  refine (make_ok k vs _ _ p _ room st l (h.a.fresh _) hk hv hr (.inr ⟨⟨w.heap.size, 0, none⟩, vs.length, rfl, .inr (fun hh => hh.2 rfl), by unfold maxLen; omega, fun j hj => ?_⟩)).mono fun e w' ⟨he, ha, ho⟩ => ⟨by rw [he]; simp, (h.alloc _).only ha ho (fun _ hk => hk.1)⟩
  rw [add_lit, Nat.zero_add, World.cell?_alloc_new]
  simp [List.getD, List.getElem?_eq_getElem hj]
end

end Go.Proofs.Ytmbeaefgakfbnaa
