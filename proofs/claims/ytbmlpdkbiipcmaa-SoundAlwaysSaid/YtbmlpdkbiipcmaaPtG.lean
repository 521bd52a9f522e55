/- Contracts of package put: counted, at, isTreap, madeOf. Contract of put's at. put's madeOf and parted, over the treap of sorted pairs. put's parted, over the treap of sorted pairs. put's with, over the treap of sorted pairs. put's Put and Add, over the treap of sorted pairs. put's Of; Add over a treap; the mathematics of putting some pairs one behind the other. Put and Of where there is room, in an arena that a law holds. -/
import Derived.Test.YtbmlpdkbiipcmaaNtG
import Derived.Test.YtbmlpdkbiipcmaaLkG
import Derived.Deep.RegionHeld3
import Derived.Test.YtbmlpdkbiipcmaaMixC
namespace Go.Proofs.Ytbmlpdkbiipcmaa
open Go.RowKit
set_option linter.all false

section
variable {w : World} {p : Nat} {F : Nat → Prop} {room st : Int} {L : List It}

/-- counted of what may hang. -/
theorem counted_node (h : Arena w p F room st L) (t c : Int) (hk : kindL L c = 1) (hlt : c < t) :
    Calls Try.prog 63 #[.pointer (some ⟨p, 0, none⟩), .int .i64 t, .int .i64 c] w fun e w' => e = .returned (.int .i64 c) ∧ Below w.heap.size w w' := by
  have cg := get_yes c w p F room st L h hk
  have hd : decide (c < t) = true := decide_eq_true hlt
  clear hk h hlt
  go_enter Try.func63, Try.ntmps63
  go_wp2_with (go_at_call 17; ((with_reducible refine cg.mono ?_); clear cg; rintro e w2 ⟨rfl, hb⟩))
  go_ret
  exact ⟨rfl, hb.alloc hb.size _⟩
theorem counted_zero (h : Arena w p F room st L) (t : Int) :
    Calls Try.prog 63 #[.pointer (some ⟨p, 0, none⟩), .int .i64 t, .int .i64 0] w fun e w' => e = .returned (.int .i64 0) ∧ Below w.heap.size w w' := by
  have cg := get_no 0 w p F room st L h (by rw [kindL_zero L 0 (by decide)]; decide)
  clear h
  go_enter Try.func63, Try.ntmps63
  go_wp2_with (go_at_call 17; ((with_reducible refine cg.mono ?_); clear cg; rintro e w2 ⟨rfl, hb⟩))
  go_ret
  exact ⟨rfl, hb.alloc hb.size _⟩
theorem counted_ok (h : Arena w p F room st L) (t c : Int) (hk : HungOk L c) (hlt : c < t ∨ c = 0) :
    Calls Try.prog 63 #[.pointer (some ⟨p, 0, none⟩), .int .i64 t, .int .i64 c] w fun e w' => e = .returned (.int .i64 c) ∧ Below w.heap.size w w' := by
  by_cases hc : c = 0
  · subst hc; exact counted_zero h t
  · exact counted_node h t c (hk.resolve_left hc) (hlt.resolve_right hc)

/-- isTreap of nothing, of a node, of what is neither. -/
theorem isTreap_is (h : Arena w p F room st L) (t : Int) (b : Bool) (hb : b = true ↔ HungOk L t) :
    Calls Try.prog 32 #[.pointer (some ⟨p, 0, none⟩), .int .i64 t] w fun e w' => e = .returned (.bool b) ∧ Below w.heap.size w w' := by
  by_cases hk : kindL L t = 1
  · obtain rfl : b = true := hb.2 (.inr hk)
    have cg := get_yes t w p F room st L h hk
    clear h hb hk
    go_enter Try.func32, Try.ntmps32
    go_wp2_with (go_at_call 17; ((with_reducible refine cg.mono ?_); clear cg; rintro e w2 ⟨rfl, hb⟩))
    go_ret
    exact ⟨rfl, hb.alloc hb.size _⟩
  · have cg := get_no t w p F room st L h hk
    by_cases ht : t = 0
    · obtain rfl : b = true := hb.2 (.inl ht)
      subst ht
      clear h hb hk
      go_enter Try.func32, Try.ntmps32
      go_wp2_with (go_at_call 17; ((with_reducible refine cg.mono ?_); clear cg; rintro e w2 ⟨rfl, hb⟩))
      go_ret
      exact ⟨rfl, hb.alloc hb.size _⟩
    · obtain rfl : b = false := by
        cases b
        · rfl
        · exact ((hb.1 rfl).elim (fun e => absurd e ht) (fun e => absurd e hk))
      have h0 : (t == 0) = false := by simp [ht]
      clear h hb hk ht
      go_enter Try.func32, Try.ntmps32
      go_wp2_with (go_at_call 17; ((with_reducible refine cg.mono ?_); clear cg; rintro e w2 ⟨rfl, hb⟩))
      go_ret
      exact ⟨rfl, hb.alloc hb.size _⟩
theorem isTreap_nil (w : World) (t : Int) :
    Calls Try.prog 32 #[.pointer none, .int .i64 t] w fun e w' => e = .returned (.bool false) ∧ Below w.heap.size w w' := by
  have cg := get_nil t w
  go_enter Try.func32, Try.ntmps32
  go_wp2_with (go_at_call 17; ((with_reducible refine cg.mono ?_); clear cg; rintro e w2 ⟨rfl, hb⟩))
  go_ret
  exact ⟨rfl, hb.alloc hb.size _⟩
end
end Go.Proofs.Ytbmlpdkbiipcmaa

namespace Go.Proofs.Ytbmlpdkbiipcmaa
open Go.RowKit
set_option linter.all false

theorem keeps {W : World} {b j : Nat} {v : Value} (h : W.cell? ⟨b, j, none⟩ = some v) : (W.setCell ⟨b, j, none⟩ v).cell? ⟨b, j, none⟩ = some v := World.cell?_setCell_same _ _ _ h
theorem SixZ.under {W W' : World} {b n : Nat} (h : SixZ W b) (hb : Below n W W') (hn : b < n) : SixZ W' b := by
  have c : ∀ {j v}, W.cell? ⟨b, j, none⟩ = some v → W'.cell? ⟨b, j, none⟩ = some v := fun {j v} hc => (hb.cell (p := ⟨b, j, none⟩) hn).trans hc
  have f : ∀ {j}, W.frozen? ⟨b, j, none⟩ = false → W'.frozen? ⟨b, j, none⟩ = false := fun {j} hf => (World.frozen?_of_block (a := ⟨b, j, none⟩) (hb.block b hn)).trans hf
  exact ⟨c h.z0, c h.z1, c h.z2, c h.z3, c h.z4, c h.z5, f h.f0, f h.f1, f h.f2, f h.f3, f h.f4, f h.f5⟩

/-- What holds while at's second region goes: the node read lies in a block, the answer's block is new, nothing older has turned. -/
structure AtS (w W : World) (b : Nat) (k v x y s h : Int) : Prop where
  n : Six W b k v x y s h
  z : SixZ W w.heap.size
  o : Below w.heap.size w W
  lt : w.heap.size < b
section
variable {w W W' : World} {b : Nat} {k v x y s h : Int}
theorem AtS.keep (H : AtS w W b k v x y s h) (hb : Below W.heap.size W W') : AtS w W' b k v x y s h :=
  ⟨H.n.keep hb, H.z.keep hb, H.o.trans (hb.mono H.o.size), H.lt⟩
theorem AtS.set2 (H : AtS w W b k v x y s h) : AtS w (W.setCell ⟨b, 2, none⟩ (.int .i64 x)) b k v x y s h := by
  have hb : Below b W (W.setCell ⟨b, 2, none⟩ (.int .i64 x)) := Below.setCell (Below.refl _ _) (Nat.le_refl b) _
  obtain ⟨⟨⟨c0, c1, c2, c3, c4, c5⟩, f0, f1, f2, f3, f4, f5⟩, z, o, lt⟩ := H
  exact ⟨⟨⟨keepc c0 (by decide), keepc c1 (by decide), keeps c2, keepc c3 (by decide), keepc c4 (by decide), keepc c5 (by decide)⟩, by simpa using f0, by simpa using f1, by simpa using f2, by simpa using f3, by simpa using f4, by simpa using f5⟩, z.under hb lt, o.trans (hb.mono (Nat.le_of_lt lt)), lt⟩
theorem AtS.set3 (H : AtS w W b k v x y s h) : AtS w (W.setCell ⟨b, 3, none⟩ (.int .i64 y)) b k v x y s h := by
  have hb : Below b W (W.setCell ⟨b, 3, none⟩ (.int .i64 y)) := Below.setCell (Below.refl _ _) (Nat.le_refl b) _
  obtain ⟨⟨⟨c0, c1, c2, c3, c4, c5⟩, f0, f1, f2, f3, f4, f5⟩, z, o, lt⟩ := H
  exact ⟨⟨⟨keepc c0 (by decide), keepc c1 (by decide), keepc c2 (by decide), keeps c3, keepc c4 (by decide), keepc c5 (by decide)⟩, by simpa using f0, by simpa using f1, by simpa using f2, by simpa using f3, by simpa using f4, by simpa using f5⟩, z.under hb lt, o.trans (hb.mono (Nat.le_of_lt lt)), lt⟩
theorem AtS.new {w2 : World} (hb : Below (w.alloc (.cells #[.int .i64 0, .int .i64 0, .int .i64 0, .int .i64 0, .int .i64 0, .int .i64 0] 41)).heap.size (w.alloc (.cells #[.int .i64 0, .int .i64 0, .int .i64 0, .int .i64 0, .int .i64 0, .int .i64 0] 41)) w2) :
    AtS w (w2.alloc (.cells #[.int .i64 k, .int .i64 v, .int .i64 x, .int .i64 y, .int .i64 s, .int .i64 h] 41)) w2.heap.size k v x y s h := by
  have hs := hb.size
  simp only [World.size_alloc] at hs
  have o := below_past (Below.refl _ w) hb
  exact ⟨Six.new _ _ _ _ _ _ _ _, ((SixZ.new w _).keep hb).keep ((Below.refl _ _).alloc (Nat.le_refl _) _), o.alloc o.size _, by omega⟩

theorem AtS.all (H : AtS w W b k v x y s h) : W.cell? ⟨b, 2, none⟩ = some (.int .i64 x) ∧ W.cell? ⟨b, 3, none⟩ = some (.int .i64 y) ∧ W.frozen? ⟨b, 2, none⟩ = false ∧ W.frozen? ⟨b, 3, none⟩ = false ∧ AtS w W b k v x y s h := ⟨H.n.c2, H.n.c3, H.n.f2, H.n.f3, H⟩
theorem at_keep (hb : Below W.heap.size W W') (H : W.cell? ⟨b, 2, none⟩ = some (.int .i64 x) ∧ W.cell? ⟨b, 3, none⟩ = some (.int .i64 y) ∧ W.frozen? ⟨b, 2, none⟩ = false ∧ W.frozen? ⟨b, 3, none⟩ = false ∧ AtS w W b k v x y s h) :
    W'.cell? ⟨b, 2, none⟩ = some (.int .i64 x) ∧ W'.cell? ⟨b, 3, none⟩ = some (.int .i64 y) ∧ W'.frozen? ⟨b, 2, none⟩ = false ∧ W'.frozen? ⟨b, 3, none⟩ = false ∧ AtS w W' b k v x y s h := (H.2.2.2.2.keep hb).all
theorem at_below (H : W.cell? ⟨b, 2, none⟩ = some (.int .i64 x) ∧ W.cell? ⟨b, 3, none⟩ = some (.int .i64 y) ∧ W.frozen? ⟨b, 2, none⟩ = false ∧ W.frozen? ⟨b, 3, none⟩ = false ∧ AtS w W b k v x y s h) : Below w.heap.size w W := H.2.2.2.2.o
theorem at_s (H : W.cell? ⟨b, 2, none⟩ = some (.int .i64 x) ∧ W.cell? ⟨b, 3, none⟩ = some (.int .i64 y) ∧ W.frozen? ⟨b, 2, none⟩ = false ∧ W.frozen? ⟨b, 3, none⟩ = false ∧ AtS w W b k v x y s h) : AtS w W b k v x y s h := H.2.2.2.2
theorem at_set2 (H : W.cell? ⟨b, 2, none⟩ = some (.int .i64 x) ∧ W.cell? ⟨b, 3, none⟩ = some (.int .i64 y) ∧ W.frozen? ⟨b, 2, none⟩ = false ∧ W.frozen? ⟨b, 3, none⟩ = false ∧ AtS w W b k v x y s h) :
    (W.setCell ⟨b, 2, none⟩ (.int .i64 x)).cell? ⟨b, 2, none⟩ = some (.int .i64 x) ∧ (W.setCell ⟨b, 2, none⟩ (.int .i64 x)).cell? ⟨b, 3, none⟩ = some (.int .i64 y) ∧ (W.setCell ⟨b, 2, none⟩ (.int .i64 x)).frozen? ⟨b, 2, none⟩ = false ∧ (W.setCell ⟨b, 2, none⟩ (.int .i64 x)).frozen? ⟨b, 3, none⟩ = false ∧ AtS w (W.setCell ⟨b, 2, none⟩ (.int .i64 x)) b k v x y s h := H.2.2.2.2.set2.all
theorem at_set3 (H : W.cell? ⟨b, 2, none⟩ = some (.int .i64 x) ∧ W.cell? ⟨b, 3, none⟩ = some (.int .i64 y) ∧ W.frozen? ⟨b, 2, none⟩ = false ∧ W.frozen? ⟨b, 3, none⟩ = false ∧ AtS w W b k v x y s h) :
    (W.setCell ⟨b, 3, none⟩ (.int .i64 y)).cell? ⟨b, 2, none⟩ = some (.int .i64 x) ∧ (W.setCell ⟨b, 3, none⟩ (.int .i64 y)).cell? ⟨b, 3, none⟩ = some (.int .i64 y) ∧ (W.setCell ⟨b, 3, none⟩ (.int .i64 y)).frozen? ⟨b, 2, none⟩ = false ∧ (W.setCell ⟨b, 3, none⟩ (.int .i64 y)).frozen? ⟨b, 3, none⟩ = false ∧ AtS w (W.setCell ⟨b, 3, none⟩ (.int .i64 y)) b k v x y s h := H.2.2.2.2.set3.all
theorem at_new {w2 : World} (hb : Below (w.alloc (.cells #[.int .i64 0, .int .i64 0, .int .i64 0, .int .i64 0, .int .i64 0, .int .i64 0] 41)).heap.size (w.alloc (.cells #[.int .i64 0, .int .i64 0, .int .i64 0, .int .i64 0, .int .i64 0, .int .i64 0] 41)) w2)
    (hW : W = (w2.alloc (.cells #[.int .i64 k, .int .i64 v, .int .i64 x, .int .i64 y, .int .i64 s, .int .i64 h] 41)).drew) :
    W.cell? ⟨w2.heap.size, 2, none⟩ = some (.int .i64 x) ∧ W.cell? ⟨w2.heap.size, 3, none⟩ = some (.int .i64 y) ∧ W.frozen? ⟨w2.heap.size, 2, none⟩ = false ∧ W.frozen? ⟨w2.heap.size, 3, none⟩ = false ∧ AtS w W w2.heap.size k v x y s h := by
  have H := (AtS.new (k := k) (v := v) (x := x) (y := y) (s := s) (h := h) hb).keep ((Below.refl _ _).drew)
  rw [← hW] at H
  exact H.all
end

set_option maxRecDepth 100000 in
set_option maxHeartbeats 3200000 in
theorem at_core (q : Option Addr) (t k v x y s h : Int) (b : Bool) (w : World)
    (cg : ∀ W, Below w.heap.size w W → Calls Try.prog 17 #[.pointer q, .int .i64 t] W fun e w' => e = .returned (.tuple #[.agg #[.int .i64 k, .int .i64 v, .int .i64 x, .int .i64 y, .int .i64 s, .int .i64 h], .bool b]) ∧ Below W.heap.size W w')
    (c1 : ∀ W, Below w.heap.size w W → Calls Try.prog 63 #[.pointer q, .int .i64 t, .int .i64 x] W fun e w' => e = .returned (.int .i64 x) ∧ Below W.heap.size W w')
    (c2 : ∀ W, Below w.heap.size w W → Calls Try.prog 63 #[.pointer q, .int .i64 t, .int .i64 y] W fun e w' => e = .returned (.int .i64 y) ∧ Below W.heap.size W w') :
    Calls Try.prog 51 #[.pointer q, .int .i64 t] w fun e w' => e = .returned (.tuple #[.agg #[.int .i64 k, .int .i64 v, .int .i64 x, .int .i64 y, .int .i64 s, .int .i64 h], .bool b]) ∧ Below w.heap.size w w' := by
  have ba : ∀ o, Below w.heap.size w (w.alloc o) := fun o => (Below.refl _ _).alloc (Nat.le_refl _) _
  go_enter Try.func51, Try.ntmps51
  go_wp2_with (go_at_call 17; ((with_reducible refine (cg _ (ba _)).mono ?_); clear cg; rintro e w2 ⟨rfl, hb⟩))
  go_region_held3 (fun W => W.cell? ⟨w2.heap.size, 2, none⟩ = some (.int .i64 x) ∧ W.cell? ⟨w2.heap.size, 3, none⟩ = some (.int .i64 y) ∧ W.frozen? ⟨w2.heap.size, 2, none⟩ = false ∧ W.frozen? ⟨w2.heap.size, 3, none⟩ = false ∧ AtS w W w2.heap.size k v x y s h)
    (first | exact at_keep hb3 (by assumption) | exact at_set2 (by assumption) | exact at_set3 (by assumption) | exact at_new hb rfl | go_keep)
    (first
      | (go_at_call 63; ((with_reducible refine (c1 _ (at_below (by assumption))).mono ?_); rintro e w3 ⟨rfl, hb3⟩))
      | (go_at_call 63; ((with_reducible refine (c2 _ (at_below (by assumption))).mono ?_); rintro e w3 ⟨rfl, hb3⟩)))
  all_goals (
    have HA := at_s (by assumption)
    clear hb c1 c2
    obtain ⟨⟨⟨c0, c1, c2, c3, c4, c5⟩, -, -, -, -, -, -⟩, zz, ob, -⟩ := HA
    obtain ⟨Wf, hWf, r0, r1, r2, r3, r4, r5, rb⟩ := zz.put (.int .i64 k) (.int .i64 v) (.int .i64 x) (.int .i64 y) (.int .i64 s) (.int .i64 h)
    obtain ⟨z0, z1, z2, z3, z4, z5, f0, f1, f2, f3, f4, f5⟩ := zz
    go_wp2_with (fail)
    rw [← hWf]
    clear hWf z0 z1 z2 z3 z4 z5 f0 f1 f2 f3 f4 f5
    refine bodyPost_ret (v := .tuple #[.agg #[.int .i64 k, .int .i64 v, .int .i64 x, .int .i64 y, .int .i64 s, .int .i64 h], .bool b]) (by simp [results, Try.results51, go_sem, r0, r1, r2, r3, r4, r5]) rfl ⟨rfl, ob.trans rb⟩)
end Go.Proofs.Ytbmlpdkbiipcmaa

namespace Go.Proofs.Ytbmlpdkbiipcmaa
open Go.RowKit
set_option linter.all false

/-- The arena's items are these now; nothing has turned but its own blocks, and what is new. -/
def Grew (w : World) (p : Nat) (F : Nat → Prop) (room st : Int) (L : List It) (w' : World) : Prop := Arena w' p (Plus F w w') room st L ∧ Only F w w'

/-- A world on the way of a call that began at w: the arena stands, and has neither the block b nor the block c; nothing older has turned but the arena's. -/
structure Wk (w W : World) (p : Nat) (F : Nat → Prop) (room st : Int) (L : List It) (b c : Nat) : Prop where
  a : Arena W p (fun k => Plus F w W k ∧ k ≠ b ∧ k ≠ c) room st L
  o : Only F w W
  lb : b < W.heap.size
  lc : c < W.heap.size

section
variable {w W W' : World} {p : Nat} {F : Nat → Prop} {room st : Int} {L L' : List It} {b c : Nat}
theorem Grew.ofBelow (h : Arena w p F room st L) (hb : Below w.heap.size w W) : Grew w p F room st L W := ⟨(h.below hb).mono (fun k hk _ => .inl hk), Only.ofBelow hb⟩
theorem Grew.since {G : Nat → Prop} (m : Grew W p G room st L W') (b : Below w.heap.size w W) (hF : ∀ k, G k → F k) : Grew w p F room st L W' := by
  obtain ⟨hA, hO⟩ := m
  refine ⟨hA.mono (fun k hk hlt => ?_), Only.trans (S := F) (Only.ofBelow b) hO (fun i hi _ => hF i hi)⟩
  rcases hk with hk | hk
  · exact .inl (hF k hk)
  · exact .inr ⟨Nat.le_trans b.size hk.1, hk.2⟩
theorem Wk.begin (h : Arena w p F room st L) (hb : Below w.heap.size w W) (h1 : w.heap.size ≤ b) (h2 : w.heap.size ≤ c) (l1 : b < W.heap.size) (l2 : c < W.heap.size) : Wk w W p F room st L b c :=
  ⟨(h.mono (G := fun k => F k ∧ k < w.heap.size) (fun k hk hlt => ⟨hk, hlt⟩)).below hb |>.mono (fun k hk _ => ⟨.inl hk.1, by have := hk.2; omega, by have := hk.2; omega⟩), Only.ofBelow hb, l1, l2⟩
theorem Wk.below (h : Wk w W p F room st L b c) (hb : Below W.heap.size W W') : Wk w W' p F room st L b c :=
  ⟨(h.a.below hb).mono (fun k hk _ => ⟨hk.1.imp id (fun e => ⟨e.1, Nat.lt_of_lt_of_le e.2 hb.size⟩), hk.2⟩), h.o.trans (Only.ofBelow (S := fun _ => False) hb) (fun _ hf => hf.elim), Nat.lt_of_lt_of_le h.lb hb.size, Nat.lt_of_lt_of_le h.lc hb.size⟩
theorem Wk.go (h : Wk w W p F room st L b c) (m : Grew W p (fun k => Plus F w W k ∧ k ≠ b ∧ k ≠ c) room st L' W') : Wk w W' p F room st L' b c := by
  obtain ⟨hA, hO⟩ := m
  have hs := hO.size
  have l1 := h.lb
  have l2 := h.lc
  have hs0 := h.o.size
  refine ⟨hA.mono (fun k hk hlt => ?_), h.o.trans hO (fun i hi hlt => ?_), by omega, by omega⟩
  · rcases hk with ⟨hk, h1, h2⟩ | ⟨hk, hk2⟩
    · exact ⟨hk.imp id (fun e => ⟨e.1, by omega⟩), h1, h2⟩
    · exact ⟨.inr ⟨by omega, hk2⟩, by omega, by omega⟩
  · rcases hi.1 with hi | hi
    · exact hi
    · omega
theorem Wk.node {k v x y s hh : Int} (m : Grew W p (fun k => Plus F w W k ∧ k ≠ b ∧ k ≠ c) room st L' W') (n : NodeAt W b k v x y s hh) : NodeAt W' b k v x y s hh := n.only m.2 (fun e => e.2.1 rfl)
theorem Wk.two {k v : Int} (m : Grew W p (fun k => Plus F w W k ∧ k ≠ b ∧ k ≠ c) room st L' W') (n : Two W c k v) : Two W' c k v := n.only m.2 (fun e => e.2.2 rfl)
theorem Wk.grew (h : Wk w W p F room st L b c) : Grew w p F room st L W := ⟨h.a.mono (fun k hk _ => hk.1), h.o⟩

/-- What at says of a node of a treap. -/
theorem at_apart (hA : Arena w p F room st L) {t x y : Int} {A B : List Pr} {q : Pr} (h : Apart L t x y A B q) (hl : A.length + B.length + 1 ≤ 1000) :
    ∃ s hh : Int, Calls Try.prog 51 #[.pointer (some ⟨p, 0, none⟩), .int .i64 t] w fun e w' => e = .returned (.tuple #[.agg #[.int .i64 q.1, .int .i64 q.2, .int .i64 x, .int .i64 y, .int .i64 s, .int .i64 hh], .bool true]) ∧ Below w.heap.size w w' := by
  obtain ⟨n0, n1, n2, n3, n4, n5, n6⟩ := node_says h.item
  have gx := (h.tx.hung (by omega)).1
  have gy := (h.ty.hung (by omega)).1
  refine ⟨valL L t 4, valL L t 5, at_core (some ⟨p, 0, none⟩) t q.1 q.2 x y _ _ true w (fun W hb => ?_) (fun W hb => counted_ok (hA.below hb) t x gx.ok (.inl h.hx)) (fun W hb => counted_ok (hA.below hb) t y gy.ok (.inl h.hy))⟩
  have := get_yes t W p F room st L (hA.below hb) n0
  rw [n1, n2, n3, n4] at this
  exact this
theorem at_zero (hA : Arena w p F room st L) :
    Calls Try.prog 51 #[.pointer (some ⟨p, 0, none⟩), .int .i64 0] w fun e w' => e = .returned (.tuple #[.agg #[.int .i64 0, .int .i64 0, .int .i64 0, .int .i64 0, .int .i64 0, .int .i64 0], .bool false]) ∧ Below w.heap.size w w' :=
  at_core (some ⟨p, 0, none⟩) 0 0 0 0 0 0 0 false w (fun W hb => get_no 0 W p F room st L (hA.below hb) (by rw [kindL_zero L 0 (by decide)]; decide)) (fun W hb => counted_zero (hA.below hb) 0) (fun W hb => counted_zero (hA.below hb) 0)

/-! ### madeOf -/

theorem madeOf_err (q : Option Addr) (k v x y er : Int) (w : World) (he : er ≠ 0) :
    Calls Try.prog 56 #[.pointer q, .agg #[.int .i64 k, .int .i64 v], .int .i64 x, .int .i64 y, .int .i64 er] w fun e w' => e = .returned (.tuple #[.int .i64 0, .int .i64 er]) ∧ Below w.heap.size w w' := by
  have h0 : (er != 0) = true := by simpa using he
  clear he
  go_enter Try.func56, Try.ntmps56
  go_wp2_with (fail)
  go_ret2
  exact ⟨rfl, (Below.refl _ _).alloc (Nat.le_refl _) _⟩
theorem madeOf_go (q : Option Addr) (k v x y : Int) (w : World) (R : Int → Int → World → Prop)
    (cm : ∀ W, Below w.heap.size w W → Calls Try.prog 14 #[.pointer q, .agg #[.int .i64 k, .int .i64 v], .int .i64 x, .int .i64 y] W fun e w' => ∃ n er, e = .returned (.tuple #[.int .i64 n, .int .i64 er]) ∧ R n er w') :
    Calls Try.prog 56 #[.pointer q, .agg #[.int .i64 k, .int .i64 v], .int .i64 x, .int .i64 y, .int .i64 0] w fun e w' => ∃ n er, e = .returned (.tuple #[.int .i64 n, .int .i64 er]) ∧ R n er w' := by
  have ba : ∀ o, Below w.heap.size w (w.alloc o) := fun o => (Below.refl _ _).alloc (Nat.le_refl _) _
  go_enter Try.func56, Try.ntmps56
  go_wp2_with (go_at_call 14; ((with_reducible refine (cm _ (ba _)).mono ?_); clear cm; rintro e w2 ⟨n, er, rfl, hR⟩))
  go_ret2
  exact ⟨n, er, rfl, hR⟩

/-- A node on two treaps, or no room. -/
def MkSays (w : World) (p : Nat) (F : Nat → Prop) (room st : Int) (L : List It) (l : List Pr) (n er : Int) (w' : World) : Prop :=
  ∃ M : List It, Grew w p F room st (L ++ M) w' ∧ M.length ≤ 1 ∧ ((er = 0 ∧ Tree (L ++ M) n l) ∨ (er = 2 ∧ M = [] ∧ room = L.length))
theorem tmake (hA : Arena w p F room st L) {x y k v : Int} {A B : List Pr} (hs : Srt (A ++ (k, v) :: B)) (h : ∀ z ∈ A ++ B, abv k z.1 = true) (tx : Tree L x A) (ty : Tree L y B) (hl : A.length + B.length + 1 ≤ 1000) :
    Calls Try.prog 14 #[.pointer (some ⟨p, 0, none⟩), .agg #[.int .i64 k, .int .i64 v], .int .i64 x, .int .i64 y] w fun e w' => ∃ n er, e = .returned (.tuple #[.int .i64 n, .int .i64 er]) ∧ MkSays w p F room st L (A ++ (k, v) :: B) n er w' := by
  obtain ⟨g1, x0, x1⟩ := tx.hung (by omega)
  obtain ⟨g2, y0, y1⟩ := ty.hung (by omega)
  have hA1 := hi_le _ A (Nat.le_refl _)
  have hB1 := hi_le _ B (Nat.le_refl _)
  by_cases hr : (L.length : Int) < room
  · refine (nmake_ok k v hA g1 g2 hr).mono ?_
    rintro e w' ⟨rfl, ha, ho⟩
    rw [oneM_small (by omega) (by omega) (by omega), oneM_high (by omega) (by omega)] at ha
    refine ⟨(L.length : Int) + 1, 0, by simp, _, ⟨ha, ho⟩, by simp, .inl ⟨rfl, ?_⟩⟩
    exact Tree.cat hs h (itemAt_new _ _ _ rfl) (by first | omega | simp) (by omega) (by omega) (by omega) x0 y0 (tx.app _) (ty.app _)
  · have hfit : (L.length : Int) ≤ room := by obtain ⟨sv, vv, hi, _⟩ := hA; exact hi.fits
    have he : room = L.length := by omega
    refine (nmake_full k v hA g1 g2 he).mono ?_
    rintro e w' ⟨rfl, hb⟩
    exact ⟨0, 2, rfl, [], by rw [List.append_nil]; exact Grew.ofBelow hA hb, by simp, .inr ⟨rfl, rfl, he⟩⟩
/-- madeOf of what a recursion told: two treaps, or an error. -/
theorem madeOf_tree (hA : Arena w p F room st L) {x y k v er : Int} {A B : List Pr} (hs : Srt (A ++ (k, v) :: B)) (h : ∀ z ∈ A ++ B, abv k z.1 = true) (hl : A.length + B.length + 1 ≤ 1000) (hc : (er = 0 ∧ Tree L x A ∧ Tree L y B) ∨ (er = 2 ∧ room = L.length)) :
    Calls Try.prog 56 #[.pointer (some ⟨p, 0, none⟩), .agg #[.int .i64 k, .int .i64 v], .int .i64 x, .int .i64 y, .int .i64 er] w fun e w' => ∃ n er', e = .returned (.tuple #[.int .i64 n, .int .i64 er']) ∧ (er = 2 → er' = 2) ∧ MkSays w p F room st L (A ++ (k, v) :: B) n er' w' := by
  rcases hc with ⟨rfl, tx, ty⟩ | ⟨rfl, he⟩
  · refine madeOf_go _ k v x y w (fun n er' w' => ((0 : Int) = 2 → er' = 2) ∧ MkSays w p F room st L (A ++ (k, v) :: B) n er' w') (fun W hb => (tmake (hA.below hb) hs h tx ty hl).mono ?_)
    rintro e w' ⟨n, er, rfl, M, hg, hM, hcc⟩
    exact ⟨n, er, rfl, fun h => absurd h (by decide), M, hg.since hb (fun k hk => hk), hM, hcc⟩
  · refine (madeOf_err _ k v x y 2 w (by decide)).mono ?_
    rintro e w' ⟨rfl, hb⟩
    exact ⟨0, 2, rfl, fun _ => rfl, [], by rw [List.append_nil]; exact Grew.ofBelow hA hb, by simp, .inr ⟨rfl, rfl, he⟩⟩
end
end Go.Proofs.Ytbmlpdkbiipcmaa

namespace Go.Proofs.Ytbmlpdkbiipcmaa
open Go.RowKit
set_option linter.all false

/-- The pairs at a key, and above it. -/
def geL (l : List Pr) (k : Int) : List Pr := l.filter (fun z => decide (k ≤ z.1))
theorem geL_mem {l : List Pr} {k : Int} {z : Pr} : z ∈ geL l k ↔ z ∈ l ∧ k ≤ z.1 := by unfold geL; rw [List.mem_filter, decide_eq_true_iff]
theorem geL_srt {l : List Pr} (h : Srt l) (k : Int) : Srt (geL l k) := h.filter _
theorem geL_nil (k : Int) : geL [] k = [] := rfl
theorem geL_all {l : List Pr} {k : Int} (h : ∀ z ∈ l, k ≤ z.1) : geL l k = l := List.filter_eq_self.2 (fun z hz => by simpa using h z hz)
theorem geL_none {l : List Pr} {k : Int} (h : ∀ z ∈ l, z.1 < k) : geL l k = [] := List.filter_eq_nil_iff.2 (fun z hz => by have := h z hz; simp; omega)
theorem geL_hi {l : List Pr} {k : Int} (h : ∀ z ∈ l, z.1 ≠ k) : geL l k = hiL l k := by
  unfold geL hiL
  refine List.filter_congr (fun z hz => ?_)
  have := h z hz
  rw [decide_eq_decide]
  omega
theorem geL_left {A B : List Pr} {q : Pr} {k : Int} (hs : Srt (A ++ q :: B)) (hk : k ≤ q.1) : geL (A ++ q :: B) k = geL A k ++ q :: B := by
  obtain ⟨_, _, h1, h2⟩ := hs.parts
  unfold geL
  rw [List.filter_append, List.filter_cons_of_pos (by simpa using hk)]
  have : B.filter (fun z => decide (k ≤ z.1)) = B := geL_all (fun z hz => by have := h2 z hz; omega)
  rw [this]
theorem geL_right {A B : List Pr} {q : Pr} {k : Int} (hs : Srt (A ++ q :: B)) (hk : q.1 < k) : geL (A ++ q :: B) k = geL B k := by
  obtain ⟨_, _, h1, h2⟩ := hs.parts
  unfold geL
  rw [List.filter_append, List.filter_cons_of_neg (by simp; omega)]
  have : A.filter (fun z => decide (k ≤ z.1)) = [] := geL_none (fun z hz => by have := h1 z hz; omega)
  rw [this, List.nil_append]

/-- What parted tells: the pairs below the key and the others, or no room. -/
def PartSays (w : World) (p : Nat) (F : Nat → Prop) (room st : Int) (L : List It) (k : Int) (l : List Pr) (e : Ending) (w' : World) : Prop :=
  ∃ (x y er : Int) (M : List It), e = .returned (.tuple #[.int .i64 x, .int .i64 y, .int .i64 er]) ∧ Grew w p F room st (L ++ M) w' ∧
    ((er = 0 ∧ M.length ≤ hi l ∧ Tree (L ++ M) x (loL l k) ∧ Tree (L ++ M) y (geL l k)) ∨ (er = 2 ∧ room = ((L ++ M).length : Nat) ∧ M.length + 1 ≤ hi l))

theorem loL_len (l : List Pr) (k : Int) : (loL l k).length ≤ l.length := List.length_filter_le _ _
theorem geL_len (l : List Pr) (k : Int) : (geL l k).length ≤ l.length := List.length_filter_le _ _

set_option maxRecDepth 100000 in
set_option maxHeartbeats 3200000 in
theorem parted_nil (k : Int) (w : World) (p : Nat) (F : Nat → Prop) (room st : Int) (L : List It) (hA : Arena w p F room st L) :
    Calls Try.prog 58 #[.pointer (some ⟨p, 0, none⟩), .int .i64 0, .int .i64 k] w (PartSays w p F room st L k []) := by
  have ca := at_zero hA
  have HA := Lib.hid hA
  clear hA
  go_enter Try.func58, Try.ntmps58
  go_wp2_with (go_at_call 51; ((with_reducible refine ca.mono ?_); clear ca; rintro e w1 ⟨rfl, hb⟩))
  refine bodyPost_ret (v := .tuple #[.int .i64 0, .int .i64 0, .int .i64 0]) (by simp [results, Try.results58, go_sem]) rfl ?_
  refine ⟨0, 0, 0, [], rfl, Grew.ofBelow (by rw [List.append_nil]; exact HA.out) (hb.alloc hb.size _), .inl ⟨rfl, by simp, ?_, ?_⟩⟩
  · rw [loL_nil]; exact .nil
  · rw [geL_nil]; exact .nil

set_option maxRecDepth 100000 in
set_option maxHeartbeats 3200000 in
theorem parted_any (p : Nat) (room st k : Int) (N : Nat) : ∀ (l : List Pr) (w : World) (t : Int) (L : List It) (F : Nat → Prop), l.length ≤ N → Srt l → l.length ≤ 1000 → Tree L t l → Arena w p F room st L →
    Calls Try.prog 58 #[.pointer (some ⟨p, 0, none⟩), .int .i64 t, .int .i64 k] w (PartSays w p F room st L k l) := by
  induction N with
  | zero =>
    intro l w t L F hN hs hl T hA
    obtain rfl : l = [] := List.length_eq_zero_iff.1 (by omega)
    cases T.apart hs with
    | inl h => obtain ⟨rfl, _⟩ := h; exact parted_nil k w p F room st L hA
    | inr h => obtain ⟨x, y, A, B, q, e, _⟩ := h; simp at e
  | succ N ih =>
    intro l w t L F hN hs hl T hA
    rcases T.apart hs with ⟨rfl, rfl⟩ | ⟨x, y, A, B, q, rfl, AP⟩
    · exact parted_nil k w p F room st L hA
    · obtain ⟨k0, v0⟩ := q
      have hlen : (A ++ (k0, v0) :: B).length = A.length + B.length + 1 := by simp; omega
      rw [hlen] at hN hl
      obtain ⟨s, hh, ca⟩ := at_apart hA AP hl
      dsimp only at ca
      have hh1 := hi_app hs AP.top
      obtain ⟨sA, sB, bA, bB⟩ := hs.parts
      have top := AP.top
      dsimp only at top bA bB
      by_cases hd : k0 < k
      · have hd' : decide (k0 < k) = true := decide_eq_true hd
        have cr := fun W G (hW : Arena W p G room st L) => ih B W y L G (by omega) sB (by omega) AP.ty hW
        have cm := fun W G (M : List It) x1 er (hW : Arena W p G room st M) hc => madeOf_tree (x := x) (y := x1) (k := k0) (v := v0) (er := er) (A := A) (B := loL B k) hW
          (Srt.cat sA (loL_srt sB k) bA (fun z hz => bB z (loL_mem.1 hz).1))
          (fun z hz => top z (by
            rcases List.mem_append.1 hz with hz | hz
            · exact List.mem_append_left _ hz
            · exact List.mem_append_right _ (loL_mem.1 hz).1)) (by have := loL_len B k; omega) hc
        have fin : ∀ W (M M2 : List It) (n y1 er er' : Int), Grew w p F room st (L ++ M ++ M2) W → M2.length ≤ 1 →
            ((er = 0 ∧ M.length ≤ hi B ∧ Tree (L ++ M) y1 (geL B k)) ∨ (er = 2 ∧ M.length + 1 ≤ hi B ∧ er' ≠ 0)) →
            ((er' = 0 ∧ Tree (L ++ M ++ M2) n (A ++ (k0, v0) :: loL B k)) ∨ (er' = 2 ∧ M2 = [] ∧ room = (L ++ M).length)) →
            PartSays w p F room st L k (A ++ (k0, v0) :: B) (.returned (.tuple #[.int .i64 n, .int .i64 y1, .int .i64 er'])) W := by
          intro W M M2 n y1 er er' hg hM2 h1 h2
          refine ⟨n, y1, er', M ++ M2, rfl, by rw [← List.append_assoc]; exact hg, ?_⟩
          rw [← List.append_assoc, loL_right hs hd, geL_right hs hd, hh1]
          rcases h2 with ⟨rfl, T1⟩ | ⟨rfl, rfl, hr⟩
          · rcases h1 with ⟨rfl, hM, T2⟩ | ⟨_, _, h⟩
            · exact .inl ⟨rfl, by rw [List.length_append]; omega, T1, T2.app _⟩
            · exact absurd rfl h
          · rw [List.append_nil, List.append_nil]
            refine .inr ⟨rfl, hr, ?_⟩
            rcases h1 with ⟨_, hM, _⟩ | ⟨_, hM, _⟩ <;> omega
        have FIN := Lib.hid fin
        have CM := Lib.hid cm
        have HA := Lib.hid hA
        have ATX := Lib.hid AP.tx
        clear fin cm hA hs T AP hh1 sA sB bA bB top hl hlen hN ih hd
        go_enter Try.func58, Try.ntmps58
        go_wp2_with (first
          | (go_at_call 51; ((with_reducible refine ca.mono ?_); clear ca; rintro e w1 ⟨rfl, hb⟩; have bw := hb.alloc hb.size (.cells #[.int .i64 k0, .int .i64 v0, .int .i64 x, .int .i64 y, .int .i64 s, .int .i64 hh] 41); have W1 := Wk.begin (b := w1.heap.size) (c := w1.heap.size) HA.out bw hb.size hb.size (by simp) (by simp); have N1 := (Six.new w1 k0 v0 x y s hh 41).toNodeAt))
          | (go_at_call 58; ((with_reducible refine (cr _ _ W1.a).mono ?_); clear cr; rintro e w2 ⟨x1, y1, er, M, rfl, hg, hc⟩; have W2 := W1.go hg; obtain ⟨c0, c1, c2, c3, c4, c5⟩ := Wk.node hg N1; have HC := Lib.hid hc; clear hc hg))
          | (go_at_call 56; ((with_reducible refine (CM.out _ _ (L ++ M) x1 er W2.a (HC.out.imp (fun h => ⟨h.1, ATX.out.app _, h.2.2.1⟩) (fun h => ⟨h.1, h.2.1⟩))).mono ?_); rintro e w3 ⟨n, er', rfl, hee, M2, hg2, hM2, hc2⟩)))
        refine bodyPost_ret (v := .tuple #[.int .i64 n, .int .i64 y1, .int .i64 er']) (by simp [results, Try.results58, go_sem]) rfl ?_
        refine FIN.out _ M M2 n y1 er er' (W2.go hg2).grew hM2 ?_ hc2
        rcases HC.out with ⟨h1, h2, h3, h4⟩ | ⟨h1, h2, h3⟩
        · exact .inl ⟨h1, h2, h4⟩
        · refine .inr ⟨h1, h3, ?_⟩
          rw [hee h1]; decide
      · have hkd : k ≤ k0 := by omega
        have hd' : decide (k0 < k) = false := decide_eq_false hd
        have cr := fun W G (hW : Arena W p G room st L) => ih A W x L G (by omega) sA (by omega) AP.tx hW
        have cm := fun W G (M : List It) y1 er (hW : Arena W p G room st M) hc => madeOf_tree (x := y1) (y := y) (k := k0) (v := v0) (er := er) (A := geL A k) (B := B) hW
          (Srt.cat (geL_srt sA k) sB (fun z hz => bA z (geL_mem.1 hz).1) bB)
          (fun z hz => top z (by
            rcases List.mem_append.1 hz with hz | hz
            · exact List.mem_append_left _ (geL_mem.1 hz).1
            · exact List.mem_append_right _ hz)) (by have := geL_len A k; omega) hc
        have fin : ∀ W (M M2 : List It) (n x1 er er' : Int), Grew w p F room st (L ++ M ++ M2) W → M2.length ≤ 1 →
            ((er = 0 ∧ M.length ≤ hi A ∧ Tree (L ++ M) x1 (loL A k)) ∨ (er = 2 ∧ M.length + 1 ≤ hi A ∧ er' ≠ 0)) →
            ((er' = 0 ∧ Tree (L ++ M ++ M2) n (geL A k ++ (k0, v0) :: B)) ∨ (er' = 2 ∧ M2 = [] ∧ room = (L ++ M).length)) →
            PartSays w p F room st L k (A ++ (k0, v0) :: B) (.returned (.tuple #[.int .i64 x1, .int .i64 n, .int .i64 er'])) W := by
          intro W M M2 n x1 er er' hg hM2 h1 h2
          refine ⟨x1, n, er', M ++ M2, rfl, by rw [← List.append_assoc]; exact hg, ?_⟩
          rw [← List.append_assoc, loL_left hs hkd, geL_left hs hkd, hh1]
          rcases h2 with ⟨rfl, T1⟩ | ⟨rfl, rfl, hr⟩
          · rcases h1 with ⟨rfl, hM, T2⟩ | ⟨_, _, h⟩
            · exact .inl ⟨rfl, by rw [List.length_append]; omega, T2.app _, T1⟩
            · exact absurd rfl h
          · rw [List.append_nil, List.append_nil]
            refine .inr ⟨rfl, hr, ?_⟩
            rcases h1 with ⟨_, hM, _⟩ | ⟨_, hM, _⟩ <;> omega
        have FIN := Lib.hid fin
        have CM := Lib.hid cm
        have HA := Lib.hid hA
        have ATX := Lib.hid AP.ty
        clear fin cm hA hs T AP hh1 sA sB bA bB top hl hlen hN ih hd hkd
        go_enter Try.func58, Try.ntmps58
        go_wp2_with (first
          | (go_at_call 51; ((with_reducible refine ca.mono ?_); clear ca; rintro e w1 ⟨rfl, hb⟩; have bw := hb.alloc hb.size (.cells #[.int .i64 k0, .int .i64 v0, .int .i64 x, .int .i64 y, .int .i64 s, .int .i64 hh] 41); have W1 := Wk.begin (b := w1.heap.size) (c := w1.heap.size) HA.out bw hb.size hb.size (by simp) (by simp); have N1 := (Six.new w1 k0 v0 x y s hh 41).toNodeAt))
          | (go_at_call 58; ((with_reducible refine (cr _ _ W1.a).mono ?_); clear cr; rintro e w2 ⟨x1, y1, er, M, rfl, hg, hc⟩; have W2 := W1.go hg; obtain ⟨c0, c1, c2, c3, c4, c5⟩ := Wk.node hg N1; have HC := Lib.hid hc; clear hc hg))
          | (go_at_call 56; ((with_reducible refine (CM.out _ _ (L ++ M) y1 er W2.a (HC.out.imp (fun h => ⟨h.1, h.2.2.2, ATX.out.app _⟩) (fun h => ⟨h.1, h.2.1⟩))).mono ?_); rintro e w3 ⟨n, er', rfl, hee, M2, hg2, hM2, hc2⟩)))
        refine bodyPost_ret (v := .tuple #[.int .i64 x1, .int .i64 n, .int .i64 er']) (by simp [results, Try.results58, go_sem]) rfl ?_
        refine FIN.out _ M M2 n x1 er er' (W2.go hg2).grew hM2 ?_ hc2
        rcases HC.out with ⟨h1, h2, h3, h4⟩ | ⟨h1, h2, h3⟩
        · exact .inl ⟨h1, h2, h3⟩
        · refine .inr ⟨h1, h3, ?_⟩
          rw [hee h1]; decide

/-- What Part tells: the pairs below the key and the others, or no room. -/
def PtSays (w : World) (p : Nat) (F : Nat → Prop) (room st : Int) (L : List It) (k : Int) (l : List Pr) (e : Ending) (w' : World) : Prop :=
  ∃ (x y er : Int) (M : List It), e = .returned (.tuple #[.int .i64 x, .int .i64 y, .int .i64 er]) ∧ Grew w p F room st (L ++ M) w' ∧
    ((er = 0 ∧ M.length ≤ hi l ∧ Tree (L ++ M) x (loL l k) ∧ Tree (L ++ M) y (geL l k)) ∨ (er = 2 ∧ room = ((L ++ M).length : Nat) ∧ M.length + 1 ≤ hi l ∧ x = 0 ∧ y = 0))
set_option maxRecDepth 100000 in
set_option maxHeartbeats 3200000 in
theorem wpart_any (p : Nat) (room st k : Int) (l : List Pr) (w : World) (t : Int) (L : List It) (F : Nat → Prop) (hs : Srt l) (hl : l.length ≤ 1000) (T : Tree L t l) (hA : Arena w p F room st L) :
    Calls Try.prog 44 #[.pointer (some ⟨p, 0, none⟩), .int .i64 t, .int .i64 k] w (PtSays w p F room st L k l) := by
  have cr := parted_any p room st k _ l w t L F (Nat.le_refl _) hs hl T hA
  clear hs hl T hA
  go_enter Try.func44, Try.ntmps44
  go_wp2_with (fail)
  refine cr.mono ?_
  clear cr
  rintro e w1 ⟨x, y, er, M, rfl, hg, hc⟩
  rcases hc with ⟨rfl, hc⟩ | ⟨rfl, hc⟩
  · go_wp2_with (fail)
    refine bodyPost_ret (v := .tuple #[.int .i64 x, .int .i64 y, .int .i64 0]) (by simp [results, Try.results44, go_sem]) rfl ?_
    exact ⟨x, y, 0, M, rfl, hg, .inl ⟨rfl, hc⟩⟩
  · go_wp2_with (fail)
    refine bodyPost_ret (v := .tuple #[.int .i64 0, .int .i64 0, .int .i64 2]) (by simp [results, Try.results44, go_sem]) rfl ?_
    exact ⟨0, 0, 2, M, rfl, hg, .inr ⟨rfl, hc.1, hc.2, rfl, rfl⟩⟩
end Go.Proofs.Ytbmlpdkbiipcmaa

namespace Go.Proofs.Ytbmlpdkbiipcmaa
open Go.RowKit
set_option linter.all false

/-- What with tells: the treap with a key more, or no room. -/
def PutW (w : World) (p : Nat) (F : Nat → Prop) (room st : Int) (L : List It) (k v : Int) (l : List Pr) (e : Ending) (w' : World) : Prop :=
  ∃ (n er : Int) (M : List It), e = .returned (.tuple #[.int .i64 n, .int .i64 er]) ∧ Grew w p F room st (L ++ M) w' ∧
    ((er = 0 ∧ M.length ≤ hi l + 1 ∧ Tree (L ++ M) n (withL l k v)) ∨ (er = 2 ∧ room = ((L ++ M).length : Nat) ∧ M.length ≤ hi l))

theorem PutW.ofMk {w w' : World} {p : Nat} {F : Nat → Prop} {room st : Int} {L : List It} {k v n er : Int} {l l' : List Pr} (m : MkSays w p F room st L l' n er w') (h : l' = withL l k v) :
    PutW w p F room st L k v l (.returned (.tuple #[.int .i64 n, .int .i64 er])) w' := by
  subst h
  obtain ⟨M, hg, hM, hc⟩ := m
  refine ⟨n, er, M, rfl, hg, hc.imp (fun h => ⟨h.1, by omega, h.2⟩) (fun h => ⟨h.1, ?_, by rw [h.2.1]; simp⟩)⟩
  rw [h.2.1, List.append_nil]; exact h.2.2
theorem MkSays.since {w W W' : World} {p : Nat} {F G : Nat → Prop} {room st : Int} {L : List It} {l : List Pr} {n er : Int} (m : MkSays W p G room st L l n er W') (b : Below w.heap.size w W) (hF : ∀ k, G k → F k) : MkSays w p F room st L l n er W' := by
  obtain ⟨M, hg, hM, hc⟩ := m
  exact ⟨M, hg.since b hF, hM, hc⟩
theorem MkSays.grew {w W W' : World} {p : Nat} {F : Nat → Prop} {room st : Int} {L : List It} {b c : Nat} {l : List Pr} {n er : Int} (hW : Wk w W p F room st L b c) (m : MkSays W p (fun k => Plus F w W k ∧ k ≠ b ∧ k ≠ c) room st L l n er W') : MkSays w p F room st L l n er W' := by
  obtain ⟨M, hg, hM, hc⟩ := m
  exact ⟨M, (hW.go hg).grew, hM, hc⟩

theorem lohi_len (l : List Pr) (k : Int) : (loL l k).length + (hiL l k).length ≤ l.length := by
  unfold loL hiL
  induction l with
  | nil => simp
  | cons z l ih =>
    rw [List.filter_cons, List.filter_cons]
    by_cases h1 : z.1 < k
    · rw [if_pos (by simpa using h1), if_neg (by simp; omega)]; simp; omega
    · rw [if_neg (by simpa using h1)]
      by_cases h2 : k < z.1
      · rw [if_pos (by simpa using h2)]; simp; omega
      · rw [if_neg (by simpa using h2)]; simp; omega
theorem withL_len (l : List Pr) (k v : Int) (hs : Srt l) : (withL l k v).length ≤ l.length + 1 := by
  rw [withL_cat hs]
  have := lohi_len l k
  simp; omega
theorem PutW.join {w w' : World} {p : Nat} {F : Nat → Prop} {room st : Int} {L M : List It} {k v n er : Int} {l l' : List Pr} (m : MkSays w p F room st (L ++ M) l' n er w') (h : l' = withL l k v) (hM1 : M.length ≤ hi l) :
    PutW w p F room st L k v l (.returned (.tuple #[.int .i64 n, .int .i64 er])) w' := by
  subst h
  obtain ⟨M2, hg, hM, hc2⟩ := m
  refine ⟨n, er, M ++ M2, rfl, by rw [← List.append_assoc]; exact hg, ?_⟩
  rw [← List.append_assoc]
  rcases hc2 with ⟨rfl, T⟩ | ⟨rfl, rfl, hr⟩
  · exact .inl ⟨rfl, by rw [List.length_append]; omega, T⟩
  · rw [List.append_nil, List.append_nil]; exact .inr ⟨rfl, hr, hM1⟩
theorem Wk.two2 {w W W' : World} {p : Nat} {F : Nat → Prop} {room st : Int} {L' : List It} {b c : Nat} {k v : Int} (m : Grew W p (fun k => Plus F w W k ∧ k ≠ b ∧ k ≠ c) room st L' W') (n : Two W c k v) : W'.cell? ⟨c, 0, none⟩ = some (.int .i64 k) ∧ W'.cell? ⟨c, 1, none⟩ = some (.int .i64 v) := ⟨(Wk.two m n).c0, (Wk.two m n).c1⟩

set_option maxRecDepth 100000 in
set_option maxHeartbeats 3200000 in
theorem with_nil (k v : Int) (w : World) (p : Nat) (F : Nat → Prop) (room st : Int) (L : List It) (hA : Arena w p F room st L) :
    Calls Try.prog 41 #[.pointer (some ⟨p, 0, none⟩), .int .i64 0, .agg #[.int .i64 k, .int .i64 v]] w (PutW w p F room st L k v []) := by
  have ba : ∀ o, Below w.heap.size w (w.alloc o) := fun o => (Below.refl _ _).alloc (Nat.le_refl _) _
  have ca := at_zero (hA.below (ba (.cells #[.int .i64 k, .int .i64 v] 24)))
  have cm := fun W (hb : Below w.heap.size w W) => tmake (x := 0) (y := 0) (k := k) (v := v) (A := []) (B := []) (hA.below hb) (by unfold Srt; simp) (by simp) .nil .nil (by simp)
  have CM := Lib.hid cm
  clear hA cm
  go_enter Try.func41, Try.ntmps41
  go_wp2_with (first
    | (go_at_call 51; ((with_reducible refine ca.mono ?_); clear ca; rintro e w1 ⟨rfl, hb⟩; have T0 := ((Two.new w k v 24).keep hb).past (.cells #[.int .i64 0, .int .i64 0, .int .i64 0, .int .i64 0, .int .i64 0, .int .i64 0] 41); have d0 := T0.c0; have d1 := T0.c1; clear T0; have bw := (below_past (Below.refl _ w) hb).alloc (below_past (Below.refl _ w) hb).size (.cells #[.int .i64 0, .int .i64 0, .int .i64 0, .int .i64 0, .int .i64 0, .int .i64 0] 41)))
    | (go_at_call 14; ((with_reducible refine (CM.out _ bw).mono ?_); rintro e w2 ⟨n, er, rfl, m⟩; have HM := Lib.hid m; clear m)))
  go_ret2
  exact PutW.ofMk (HM.out.since bw (fun k hk => hk)) (by rw [withL_nil]; rfl)

set_option maxRecDepth 100000 in
set_option maxHeartbeats 6400000 in
theorem with_put (p : Nat) (room st k v : Int) (N : Nat) : ∀ (l : List Pr) (w : World) (t : Int) (L : List It) (F : Nat → Prop), l.length ≤ N → Srt l → l.length ≤ 990 → Tree L t l → Arena w p F room st L →
    Calls Try.prog 41 #[.pointer (some ⟨p, 0, none⟩), .int .i64 t, .agg #[.int .i64 k, .int .i64 v]] w (PutW w p F room st L k v l) := by
  induction N with
  | zero =>
    intro l w t L F hN hs hl T hA
    obtain rfl : l = [] := List.length_eq_zero_iff.1 (by omega)
    cases T.apart hs with
    | inl h => obtain ⟨rfl, _⟩ := h; exact with_nil k v w p F room st L hA
    | inr h => obtain ⟨x, y, A, B, q, e, _⟩ := h; simp at e
  | succ N ih =>
    intro l w t L F hN hs hl T hA
    rcases T.apart hs with ⟨rfl, rfl⟩ | ⟨x, y, A, B, q, rfl, AP⟩
    · exact with_nil k v w p F room st L hA
    · obtain ⟨k0, v0⟩ := q
      have hlen : (A ++ (k0, v0) :: B).length = A.length + B.length + 1 := by simp; omega
      rw [hlen] at hN hl
      have ba : ∀ o, Below w.heap.size w (w.alloc o) := fun o => (Below.refl _ _).alloc (Nat.le_refl _) _
      obtain ⟨s, hh, ca⟩ := at_apart (hA.below (ba (.cells #[.int .i64 k, .int .i64 v] 24))) AP (by omega)
      dsimp only at ca
      have hh1 := hi_app hs AP.top
      obtain ⟨sA, sB, bA, bB⟩ := hs.parts
      have top := AP.top
      dsimp only at top bA bB
      have ch := fun W => holds_any k0 v0 x y s hh k W
      by_cases hk : k0 = k
      · subst hk
        have hkk : (k0 == k0) = true := by simp
        rw [hkk] at ch
        have cm := fun W G (hW : Arena W p G room st L) => tmake (x := x) (y := y) (k := k0) (v := v) (A := A) (B := B) hW (Srt.cat sA sB bA bB) top AP.tx AP.ty (by omega)
        have HE := Lib.hid (withL_here hs v)
        have CM := Lib.hid cm
        have HA := Lib.hid hA
        clear cm hA hs T AP hh1 sA sB bA bB top hl hlen hN ih ba hkk
        go_enter Try.func41, Try.ntmps41
        go_wp2_with (first
          | (go_at_call 51; ((with_reducible refine ca.mono ?_); clear ca; rintro e w1 ⟨rfl, hb⟩; have b1 := below_past (Below.refl _ w) hb; have bw := b1.alloc b1.size (.cells #[.int .i64 k0, .int .i64 v0, .int .i64 x, .int .i64 y, .int .i64 s, .int .i64 hh] 41); have W1 := Wk.begin (b := w1.heap.size) (c := w.heap.size) HA.out bw b1.size (Nat.le_refl _) (by simp) (by have := hb.size; simp at this ⊢; omega); have N1 := (Six.new w1 k0 v0 x y s hh 41).toNodeAt; have T1 := ((Two.new w k0 v 24).keep hb).past (.cells #[.int .i64 k0, .int .i64 v0, .int .i64 x, .int .i64 y, .int .i64 s, .int .i64 hh] 41); have d0 := T1.c0; have d1 := T1.c1; clear b1 bw))
          | (go_at_call 54; ((with_reducible refine (ch _).mono ?_); clear ch; rintro e w3 ⟨rfl, hb3⟩; have W2 := W1.below hb3; have N2 := N1.keep hb3; have T2 := T1.keep hb3; obtain ⟨c0, c1, c2, c3, c4, c5⟩ := N2; have d0 := T2.c0; have d1 := T2.c1; have N2 := N1.keep hb3; clear hb3 W1 N1 T1))
          | (go_at_call 14; ((with_reducible refine (CM.out _ _ W2.a).mono ?_); rintro e w4 ⟨n, er, rfl, m⟩; have HM := Lib.hid m; clear m)))
        go_ret2
        exact PutW.ofMk (HM.out.grew W2) HE.out.symm
      · have hkk : (k0 == k) = false := by simpa using hk
        rw [hkk] at ch
        have HK := Lib.hid hk
        clear hk
        have cab := fun W => mixAbove_any k k0 W
        by_cases hab : abv k k0 = true
        · rw [hab] at cab
          have hlen1 : (A ++ (k0, v0) :: B).length ≤ 1000 := by rw [hlen]; omega
          have hlen2 := lohi_len (A ++ (k0, v0) :: B) k
          rw [hlen] at hlen2
          have hlen3 : (loL (A ++ (k0, v0) :: B) k).length + (hiL (A ++ (k0, v0) :: B) k).length + 1 ≤ 1000 := by clear cab ca ch top; omega
          have cr := fun W G (hW : Arena W p G room st L) => wpart_any p room st k (A ++ (k0, v0) :: B) W t L G hs hlen1 AP.tree hW
          have hge := geL_hi (not_in (q := (k0, v0)) top hab)
          have abw := all_below (q := (k0, v0)) top hab
          have cm := fun W G (M : List It) x1 y1 er (hW : Arena W p G room st M) hc => madeOf_tree (x := x1) (y := y1) (k := k) (v := v) (er := er) (A := loL (A ++ (k0, v0) :: B) k) (B := hiL (A ++ (k0, v0) :: B) k) hW
            (Srt.cat (loL_srt hs k) (hiL_srt hs k) (fun z hz => (loL_mem.1 hz).2) (fun z hz => (hiL_mem.1 hz).2))
            (fun z hz => abw z (by
              rcases List.mem_append.1 hz with hz | hz
              · exact (loL_mem.1 hz).1
              · exact (hiL_mem.1 hz).1)) hlen3 hc
          have HE := Lib.hid (withL_cat hs k v)
          have HG := Lib.hid hge
          have CM := Lib.hid cm
          have HA := Lib.hid hA
          clear cm hA hs T AP hh1 sA sB bA bB top hl hlen hN ih ba hkk abw hab hlen1 hlen2 hlen3 hge
          go_enter Try.func41, Try.ntmps41
          go_wp2_with (first
            | (go_at_call 51; ((with_reducible refine ca.mono ?_); clear ca; rintro e w1 ⟨rfl, hb⟩; have b1 := below_past (Below.refl _ w) hb; have bw := b1.alloc b1.size (.cells #[.int .i64 k0, .int .i64 v0, .int .i64 x, .int .i64 y, .int .i64 s, .int .i64 hh] 41); have W1 := Wk.begin (b := w1.heap.size) (c := w.heap.size) HA.out bw b1.size (Nat.le_refl _) (by simp) (by have := hb.size; simp at this ⊢; omega); have N1 := (Six.new w1 k0 v0 x y s hh 41).toNodeAt; have T1 := ((Two.new w k v 24).keep hb).past (.cells #[.int .i64 k0, .int .i64 v0, .int .i64 x, .int .i64 y, .int .i64 s, .int .i64 hh] 41); have d0 := T1.c0; have d1 := T1.c1; clear b1 bw))
            | (go_at_call 54; ((with_reducible refine (ch _).mono ?_); clear ch; rintro e w3 ⟨rfl, hb3⟩; have W2 := W1.below hb3; have N2 := N1.keep hb3; have T2 := T1.keep hb3; obtain ⟨c0, c1, c2, c3, c4, c5⟩ := N2; have d0 := T2.c0; have d1 := T2.c1; have N2 := N1.keep hb3; clear hb3 W1 N1 T1))
            | (go_at_call 55; ((with_reducible refine (cab _).mono ?_); rintro e w4 ⟨rfl, rfl⟩))
            | (go_at_call 44; ((with_reducible refine (cr _ _ W2.a).mono ?_); clear cr; rintro e w5 ⟨x1, y1, er, M, rfl, hg, hc⟩; rw [HG.out] at hc; have W3 := W2.go hg; obtain ⟨e0, e1⟩ := Wk.two2 hg T2; have HC := Lib.hid hc; clear hc hg))
            | (go_at_call 56; ((with_reducible refine (CM.out _ _ (L ++ M) x1 y1 er W3.a (HC.out.imp (fun h => ⟨h.1, h.2.2.1, h.2.2.2⟩) (fun h => ⟨h.1, h.2.1⟩))).mono ?_); rintro e w6 ⟨n, er', rfl, hee, m⟩; have HM := Lib.hid m; clear m)))
          go_ret2
          refine PutW.join (HM.out.grew W3) HE.out.symm ?_
          exact HC.out.elim (fun h => by have := h.2.1; omega) (fun h => by have := h.2.2; omega)
        · have hab' : abv k k0 = false := by simpa using hab
          rw [hab'] at cab
          have hq := abv_of_not hab (fun e => HK.out e.symm)
          by_cases hd : k < k0
          · have hd' : decide (k < k0) = true := decide_eq_true hd
            have cr := fun W G (hW : Arena W p G room st L) => ih A W x L G (by omega) sA (by omega) AP.tx hW
            have cm := fun W G (M : List It) x1 er (hW : Arena W p G room st M) hc => madeOf_tree (x := x1) (y := y) (k := k0) (v := v0) (er := er) (A := withL A k v) (B := B) hW
              (by have := withL_is_srt (A ++ (k0, v0) :: B) k v hs; rw [withL_left hs v hd] at this; exact this)
              (fun z hz => by
                rcases List.mem_append.1 hz with hz | hz
                · rcases withL_mem sA hz with rfl | hz
                  · exact hq
                  · exact top z (List.mem_append_left _ hz)
                · exact top z (List.mem_append_right _ hz)) (by have := withL_len A k v sA; omega) hc
            have HE := Lib.hid (withL_left hs v hd)
            have ATX := Lib.hid AP.ty
            have CM := Lib.hid cm
            have HA := Lib.hid hA
            have HH := Lib.hid hh1
            clear cm hA hs T AP hh1 sA sB bA bB top hl hlen hN ih ba hkk hab hab' hq hd
            go_enter Try.func41, Try.ntmps41
            go_wp2_with (first
              | (go_at_call 51; ((with_reducible refine ca.mono ?_); clear ca; rintro e w1 ⟨rfl, hb⟩; have b1 := below_past (Below.refl _ w) hb; have bw := b1.alloc b1.size (.cells #[.int .i64 k0, .int .i64 v0, .int .i64 x, .int .i64 y, .int .i64 s, .int .i64 hh] 41); have W1 := Wk.begin (b := w1.heap.size) (c := w.heap.size) HA.out bw b1.size (Nat.le_refl _) (by simp) (by have := hb.size; simp at this ⊢; omega); have N1 := (Six.new w1 k0 v0 x y s hh 41).toNodeAt; have T1 := ((Two.new w k v 24).keep hb).past (.cells #[.int .i64 k0, .int .i64 v0, .int .i64 x, .int .i64 y, .int .i64 s, .int .i64 hh] 41); have d0 := T1.c0; have d1 := T1.c1; clear b1 bw))
              | (go_at_call 54; ((with_reducible refine (ch _).mono ?_); clear ch; rintro e w3 ⟨rfl, hb3⟩; have W2 := W1.below hb3; have N2 := N1.keep hb3; have T2 := T1.keep hb3; obtain ⟨c0, c1, c2, c3, c4, c5⟩ := N2; have d0 := T2.c0; have d1 := T2.c1; have N2 := N1.keep hb3; clear hb3 W1 N1 T1))
              | (go_at_call 55; ((with_reducible refine (cab _).mono ?_); rintro e w4 ⟨rfl, rfl⟩))
              | (go_at_call 41; ((with_reducible refine (cr _ _ W2.a).mono ?_); clear cr; rintro e w5 ⟨x1, er, M, rfl, hg, hc⟩; have W3 := W2.go hg; obtain ⟨e0, e1, e2, e3, e4, e5⟩ := Wk.node hg N2; have HC := Lib.hid hc; clear hc hg))
              | (go_at_call 56; ((with_reducible refine (CM.out _ _ (L ++ M) x1 er W3.a (HC.out.imp (fun h => ⟨h.1, h.2.2, ATX.out.app _⟩) (fun h => ⟨h.1, h.2.1⟩))).mono ?_); rintro e w6 ⟨n, er', rfl, hee, m⟩; have HM := Lib.hid m; clear m)))
            go_ret2
            refine PutW.join (HM.out.grew W3) HE.out.symm ?_
            rw [HH.out]
            exact HC.out.elim (fun h => by have := h.2.1; omega) (fun h => by have := h.2.2; omega)
          · have hd' : decide (k < k0) = false := decide_eq_false hd
            have hdk : k0 < k := by have := HK.out; omega
            have cr := fun W G (hW : Arena W p G room st L) => ih B W y L G (by omega) sB (by omega) AP.ty hW
            have cm := fun W G (M : List It) x1 er (hW : Arena W p G room st M) hc => madeOf_tree (x := x) (y := x1) (k := k0) (v := v0) (er := er) (A := A) (B := withL B k v) hW
              (by have := withL_is_srt (A ++ (k0, v0) :: B) k v hs; rw [withL_right hs v hdk] at this; exact this)
              (fun z hz => by
                rcases List.mem_append.1 hz with hz | hz
                · exact top z (List.mem_append_left _ hz)
                · rcases withL_mem sB hz with rfl | hz
                  · exact hq
                  · exact top z (List.mem_append_right _ hz)) (by have := withL_len B k v sB; omega) hc
            have HE := Lib.hid (withL_right hs v hdk)
            have ATX := Lib.hid AP.tx
            have CM := Lib.hid cm
            have HA := Lib.hid hA
            have HH := Lib.hid hh1
            clear cm hA hs T AP hh1 sA sB bA bB top hl hlen hN ih ba hkk hab hab' hq hd hdk
            go_enter Try.func41, Try.ntmps41
            go_wp2_with (first
              | (go_at_call 51; ((with_reducible refine ca.mono ?_); clear ca; rintro e w1 ⟨rfl, hb⟩; have b1 := below_past (Below.refl _ w) hb; have bw := b1.alloc b1.size (.cells #[.int .i64 k0, .int .i64 v0, .int .i64 x, .int .i64 y, .int .i64 s, .int .i64 hh] 41); have W1 := Wk.begin (b := w1.heap.size) (c := w.heap.size) HA.out bw b1.size (Nat.le_refl _) (by simp) (by have := hb.size; simp at this ⊢; omega); have N1 := (Six.new w1 k0 v0 x y s hh 41).toNodeAt; have T1 := ((Two.new w k v 24).keep hb).past (.cells #[.int .i64 k0, .int .i64 v0, .int .i64 x, .int .i64 y, .int .i64 s, .int .i64 hh] 41); have d0 := T1.c0; have d1 := T1.c1; clear b1 bw))
              | (go_at_call 54; ((with_reducible refine (ch _).mono ?_); clear ch; rintro e w3 ⟨rfl, hb3⟩; have W2 := W1.below hb3; have N2 := N1.keep hb3; have T2 := T1.keep hb3; obtain ⟨c0, c1, c2, c3, c4, c5⟩ := N2; have d0 := T2.c0; have d1 := T2.c1; have N2 := N1.keep hb3; clear hb3 W1 N1 T1))
              | (go_at_call 55; ((with_reducible refine (cab _).mono ?_); rintro e w4 ⟨rfl, rfl⟩))
              | (go_at_call 41; ((with_reducible refine (cr _ _ W2.a).mono ?_); clear cr; rintro e w5 ⟨x1, er, M, rfl, hg, hc⟩; have W3 := W2.go hg; obtain ⟨e0, e1, e2, e3, e4, e5⟩ := Wk.node hg N2; have HC := Lib.hid hc; clear hc hg))
              | (go_at_call 56; ((with_reducible refine (CM.out _ _ (L ++ M) x1 er W3.a (HC.out.imp (fun h => ⟨h.1, ATX.out.app _, h.2.2⟩) (fun h => ⟨h.1, h.2.1⟩))).mono ?_); rintro e w6 ⟨n, er', rfl, hee, m⟩; have HM := Lib.hid m; clear m)))
            go_ret2
            refine PutW.join (HM.out.grew W3) HE.out.symm ?_
            rw [HH.out]
            exact HC.out.elim (fun h => by have := h.2.1; omega) (fun h => by have := h.2.2; omega)
end Go.Proofs.Ytbmlpdkbiipcmaa

namespace Go.Proofs.Ytbmlpdkbiipcmaa
open Go.RowKit
set_option linter.all false

/-- What Put tells: the treap with a key more, what was there; or no room. -/
def PutSays (w : World) (p : Nat) (F : Nat → Prop) (room st : Int) (L : List It) (k v : Int) (l : List Pr) (e : Ending) (w' : World) : Prop :=
  ∃ (n old er : Int) (there : Bool) (M : List It), e = .returned (.tuple #[.int .i64 n, .int .i64 old, .bool there, .int .i64 er]) ∧ Grew w p F room st (L ++ M) w' ∧
    ((er = 0 ∧ M.length ≤ hi l + 1 ∧ Tree (L ++ M) n (withL l k v) ∧ old = ((findL l k).map (·.2)).getD 0 ∧ there = (findL l k).isSome) ∨
     (er = 2 ∧ n = 0 ∧ old = 0 ∧ there = false ∧ room = ((L ++ M).length : Nat) ∧ M.length ≤ hi l))

section
variable {w W W' : World} {p : Nat} {F : Nat → Prop} {room st : Int} {L : List It} {t k v : Int} {l : List Pr}

set_option maxRecDepth 100000 in
set_option maxHeartbeats 3200000 in
theorem put_any (hA : Arena w p F room st L) (T : Tree L t l) (hs : Srt l) (hl : l.length ≤ 990) :
    Calls Try.prog 20 #[.pointer (some ⟨p, 0, none⟩), .int .i64 t, .agg #[.int .i64 k, .int .i64 v]] w (PutSays w p F room st L k v l) := by
  have ba : ∀ o, Below w.heap.size w (w.alloc o) := fun o => (Below.refl _ _).alloc (Nat.le_refl _) _
  have W1 := Wk.begin (b := w.heap.size) (c := w.heap.size) hA (ba (.cells #[.int .i64 k, .int .i64 v] 24)) (Nat.le_refl _) (Nat.le_refl _) (by simp) (by simp)
  have T1 := Two.new w k v 24
  have ct := isTreap_is W1.a t true ⟨fun _ => (T.hung (by omega)).1.ok, fun _ => rfl⟩
  have cw := fun W G (hW : Arena W p G room st L) => with_put p room st k v _ l W t L G (Nat.le_refl _) hs hl T hW
  have cg := fun W G (M : List It) (hW : Arena W p G room st (L ++ M)) => lget_any t k W (Gets.ofArena hW) _ _ rfl rfl
  have eg := fun M => get_tree (T.app M) k hs
  have CG := Lib.hid cg
  have EG := Lib.hid eg
  clear cg eg T hs hl hA ba
  go_enter Try.func20, Try.ntmps20
  go_wp2_with (go_at_call 32; ((with_reducible refine ct.mono ?_); clear ct; rintro e w1 ⟨rfl, hb⟩; have W2 := W1.below hb; have T2 := T1.keep hb; have d0 := T2.c0; have d1 := T2.c1; clear hb W1 T1))
  refine (cw _ _ W2.a).mono ?_
  clear cw
  rintro e w2 ⟨n, er, M, rfl, hg, hc⟩
  have W3 := W2.go hg
  have T3 := Wk.two hg T2
  have e0 := T3.c0
  have e1 := T3.c1
  clear hg T2 W2
  rcases hc with ⟨rfl, hM, hT⟩ | ⟨rfl, hr, hM⟩
  · have HC := Lib.hid (And.intro hM hT)
    clear hM hT
    go_wp2_with (go_at_call 42; ((with_reducible refine (CG.out _ _ M W3.a).mono ?_); rintro e w3 ⟨rfl, hb⟩))
    refine bodyPost_ret (v := .tuple #[.int .i64 n, .int .i64 ((getL (L ++ M) t k).getD 0), .bool (getL (L ++ M) t k).isSome, .int .i64 0]) (by simp [results, Try.results20, go_sem]) rfl ?_
    refine ⟨n, _, 0, _, M, rfl, (W3.below hb).grew, .inl ⟨rfl, HC.out.1, HC.out.2, ?_, ?_⟩⟩
    · rw [EG.out M]
    · rw [EG.out M, Option.isSome_map]
  · have HC := Lib.hid (And.intro hr hM)
    clear hr hM
    go_wp2_with (fail)
    refine bodyPost_ret (v := .tuple #[.int .i64 0, .int .i64 0, .bool false, .int .i64 2]) (by simp [results, Try.results20, go_sem]) rfl ?_
    exact ⟨0, 0, 2, false, M, rfl, W3.grew, .inr ⟨rfl, rfl, rfl, rfl, HC.out⟩⟩

/-- Put of what is no treap, or without an arena. -/
theorem put_arg (q : Option Addr) (t k v : Int) (w : World)
    (ct : ∀ W, Below w.heap.size w W → Calls Try.prog 32 #[.pointer q, .int .i64 t] W fun e w' => e = .returned (.bool false) ∧ Below W.heap.size W w') :
    Calls Try.prog 20 #[.pointer q, .int .i64 t, .agg #[.int .i64 k, .int .i64 v]] w fun e w' => e = .returned (.tuple #[.int .i64 0, .int .i64 0, .bool false, .int .i64 1]) ∧ Below w.heap.size w w' := by
  have ba : ∀ o, Below w.heap.size w (w.alloc o) := fun o => (Below.refl _ _).alloc (Nat.le_refl _) _
  go_enter Try.func20, Try.ntmps20
  go_wp2_with (go_at_call 32; ((with_reducible refine (ct _ (ba _)).mono ?_); clear ct; rintro e w1 ⟨rfl, hb⟩))
  refine bodyPost_ret (v := .tuple #[.int .i64 0, .int .i64 0, .bool false, .int .i64 1]) (by simp [results, Try.results20, go_sem]) rfl ?_
  exact ⟨rfl, below_past (Below.refl _ w) hb⟩
theorem put_nil (t k v : Int) (w : World) :
    Calls Try.prog 20 #[.pointer none, .int .i64 t, .agg #[.int .i64 k, .int .i64 v]] w fun e w' => e = .returned (.tuple #[.int .i64 0, .int .i64 0, .bool false, .int .i64 1]) ∧ Below w.heap.size w w' :=
  put_arg none t k v w (fun W _ => isTreap_nil W t)
theorem put_no (hA : Arena w p F room st L) (t k v : Int) (ht : ¬ HungOk L t) :
    Calls Try.prog 20 #[.pointer (some ⟨p, 0, none⟩), .int .i64 t, .agg #[.int .i64 k, .int .i64 v]] w fun e w' => e = .returned (.tuple #[.int .i64 0, .int .i64 0, .bool false, .int .i64 1]) ∧ Below w.heap.size w w' :=
  put_arg _ t k v w (fun W hb => isTreap_is (hA.below hb) t false ⟨fun h => Bool.noConfusion h, fun h => absurd h ht⟩)

/-! ### Add -/

set_option maxRecDepth 100000 in
set_option maxHeartbeats 3200000 in
/-- Add where the key is there. -/
theorem add_there (q : Option Addr) (t k v old : Int) (w : World)
    (cg : ∀ W, Below w.heap.size w W → Calls Try.prog 42 #[.pointer q, .int .i64 t, .int .i64 k] W fun e w' => e = .returned (.tuple #[.int .i64 old, .bool true]) ∧ Below W.heap.size W w') :
    Calls Try.prog 22 #[.pointer q, .int .i64 t, .agg #[.int .i64 k, .int .i64 v]] w fun e w' => e = .returned (.tuple #[.int .i64 t, .int .i64 old, .bool true, .int .i64 0]) ∧ Below w.heap.size w w' := by
  have ba : ∀ o, Below w.heap.size w (w.alloc o) := fun o => (Below.refl _ _).alloc (Nat.le_refl _) _
  go_enter Try.func22, Try.ntmps22
  go_wp2_with (go_at_call 42; ((with_reducible refine (cg _ (ba _)).mono ?_); clear cg; rintro e w1 ⟨rfl, hb⟩))
  refine bodyPost_ret (v := .tuple #[.int .i64 t, .int .i64 old, .bool true, .int .i64 0]) (by simp [results, Try.results22, go_sem]) rfl ?_
  exact ⟨rfl, below_past (Below.refl _ w) hb⟩
set_option maxRecDepth 100000 in
set_option maxHeartbeats 3200000 in
/-- Add where the key is not there: it is Put. -/
theorem add_put (q : Option Addr) (t k v v0 : Int) (w : World) (R : Int → Int → Bool → Int → World → Prop)
    (cg : ∀ W, Below w.heap.size w W → Calls Try.prog 42 #[.pointer q, .int .i64 t, .int .i64 k] W fun e w' => e = .returned (.tuple #[.int .i64 v0, .bool false]) ∧ Below W.heap.size W w')
    (cp : ∀ W, Below w.heap.size w W → Calls Try.prog 20 #[.pointer q, .int .i64 t, .agg #[.int .i64 k, .int .i64 v]] W fun e w' => ∃ n old there er, e = .returned (.tuple #[.int .i64 n, .int .i64 old, .bool there, .int .i64 er]) ∧ R n old there er w') :
    Calls Try.prog 22 #[.pointer q, .int .i64 t, .agg #[.int .i64 k, .int .i64 v]] w fun e w' => ∃ n old there er, e = .returned (.tuple #[.int .i64 n, .int .i64 old, .bool there, .int .i64 er]) ∧ R n old there er w' := by
  have ba : ∀ o, Below w.heap.size w (w.alloc o) := fun o => (Below.refl _ _).alloc (Nat.le_refl _) _
  go_enter Try.func22, Try.ntmps22
  go_wp2_with (first
    | (go_at_call 42; ((with_reducible refine (cg _ (ba _)).mono ?_); clear cg; rintro e w1 ⟨rfl, hb⟩; have b1 := below_past (Below.refl _ w) hb; have T0 := (Two.new w k v 24).keep hb; have d0 := T0.c0; have d1 := T0.c1; clear T0 hb))
    | (go_at_call 20; ((with_reducible refine (cp _ b1).mono ?_); clear cp; rintro e w2 ⟨n, old, there, er, rfl, hR⟩)))
  refine bodyPost_ret (v := .tuple #[.int .i64 n, .int .i64 old, .bool there, .int .i64 er]) (by simp [results, Try.results22, go_sem]) rfl ?_
  exact ⟨n, old, there, er, rfl, hR⟩
end
end Go.Proofs.Ytbmlpdkbiipcmaa

namespace Go.Proofs.Ytbmlpdkbiipcmaa
open Go.RowKit
set_option linter.all false

def putL (l : List Pr) (ps : List Pr) : List Pr := ps.foldl (fun acc q => withL acc q.1 q.2) l
theorem putL_srt {l : List Pr} (ps : List Pr) : Srt l → Srt (putL l ps) := by
  induction ps generalizing l with
  | nil => exact id
  | cons q ps ih => intro h; exact ih (withL_is_srt l q.1 q.2 h)
theorem putL_snoc (l ps : List Pr) (q : Pr) : putL l (ps ++ [q]) = withL (putL l ps) q.1 q.2 := by unfold putL; rw [List.foldl_append]; rfl
theorem putL_len {l : List Pr} (ps : List Pr) : Srt l → (putL l ps).length ≤ l.length + ps.length := by
  induction ps generalizing l with
  | nil => intro _; exact Nat.le_refl _
  | cons q ps ih =>
    intro h
    have h1 := ih (withL_is_srt l q.1 q.2 h)
    have h2 := withL_len l q.1 q.2 h
    rw [List.length_cons]
    exact Nat.le_trans h1 (by omega)

section
variable {w W W' : World} {p : Nat} {F : Nat → Prop} {room st : Int} {L : List It} {t k v : Int} {l : List Pr}
theorem Grew.trans {L' : List It} (h : Grew w p F room st L W) (m : Grew W p (Plus F w W) room st L' W') : Grew w p F room st L' W' := by
  obtain ⟨hA, hO⟩ := m
  have hs := h.2.size
  have hs2 := hO.size
  refine ⟨hA.mono (fun k hk hlt => ?_), h.2.trans hO (fun i hi hlt => ?_)⟩
  · rcases hk with (hk | hk) | hk
    · exact .inl hk
    · exact .inr ⟨hk.1, by omega⟩
    · exact .inr ⟨by omega, hk.2⟩
  · rcases hi with hi | hi
    · exact hi
    · omega
theorem Grew.below (h : Grew w p F room st L W) (hb : Below W.heap.size W W') : Grew w p F room st L W' := h.trans (Grew.ofBelow h.1 hb)
theorem PutSays.since {e : Ending} (m : PutSays W p F room st L k v l e W') (b : Below w.heap.size w W) : PutSays w p F room st L k v l e W' := by
  obtain ⟨n, old, er, there, M, he, hg, hc⟩ := m
  exact ⟨n, old, er, there, M, he, hg.since b (fun k hk => hk), hc⟩

theorem add_any (hA : Arena w p F room st L) (T : Tree L t l) (hs : Srt l) (hl : l.length ≤ 990) (hn : findL l k = none) :
    Calls Try.prog 22 #[.pointer (some ⟨p, 0, none⟩), .int .i64 t, .agg #[.int .i64 k, .int .i64 v]] w (PutSays w p F room st L k v l) := by
  refine (add_put _ t k v 0 w (fun n old there er w' => PutSays w p F room st L k v l (.returned (.tuple #[.int .i64 n, .int .i64 old, .bool there, .int .i64 er])) w') (fun W hb => lget_any t k W (Gets.ofArena (hA.below hb)) 0 false (by rw [get_tree T k hs, hn]; rfl) (by rw [get_tree T k hs, hn]; rfl)) (fun W hb => (put_any (hA.below hb) T hs hl).mono ?_)).mono ?_
  · intro e w' m
    have m2 := m.since hb
    obtain ⟨n, old, er, there, M, he, hg, hc⟩ := m2
    exact ⟨n, old, there, er, he, n, old, er, there, M, rfl, hg, hc⟩
  · rintro e w' ⟨n, old, there, er, rfl, m⟩
    exact m

/-! ### Of -/

def OfSays (w : World) (p : Nat) (F : Nat → Prop) (room st : Int) (L : List It) (ps : List Pr) (e : Ending) (w' : World) : Prop :=
  ∃ (t : Int) (M : List It), e = .returned (.tuple #[.int .i64 t, .int .i64 0]) ∧ Grew w p F room st (L ++ M) w' ∧ M.length ≤ ps.length * (ps.length + 1) ∧ Tree (L ++ M) t (putL [] ps)

theorem of_room {P n m x y : Nat} {room : Int} (hn : n < P) (hm : m ≤ n * (P + 1)) (hx : x ≤ P) (hr : ((y + P * (P + 1) : Nat) : Int) ≤ room) : room ≠ ((y + m + x : Nat) : Int) := by
  have h := Nat.mul_le_mul_right (P + 1) (show n + 1 ≤ P by omega)
  rw [Nat.add_mul] at h
  omega

end
end Go.Proofs.Ytbmlpdkbiipcmaa

namespace Go.Proofs.Ytbmlpdkbiipcmaa
open Go.RowKit
set_option linter.all false

section
variable {w0 w W W' : World} {p : Nat} {F : Nat → Prop} {room st : Int} {L : List It} {t k v : Int} {l : List Pr}
theorem Held.grew {L' : List It} {G : Nat → Prop} (h : Held w0 w p room st L) (m : Grew w p G room st L' W) (hG : ∀ k, G k → w0.heap.size ≤ k) : Held w0 W p room st L' := h.only m.1 m.2 hG

theorem put_ok (h : Held w0 w p room st L) (T : Tree L t l) (hs : Srt l) (hl : l.length ≤ 990) (hr : ((L.length + hi l + 1 : Nat) : Int) ≤ room) (k v old : Int) (there : Bool) (hold : ((findL l k).map (·.2)).getD 0 = old) (hthere : (findL l k).isSome = there) :
    Calls Try.prog 20 #[.pointer (some ⟨p, 0, none⟩), .int .i64 t, .agg #[.int .i64 k, .int .i64 v]] w fun e w' =>
      ∃ (n : Int) (M : List It), e = .returned (.tuple #[.int .i64 n, .int .i64 old, .bool there, .int .i64 0]) ∧ Held w0 w' p room st (L ++ M) ∧ M.length ≤ hi l + 1 ∧ Tree (L ++ M) n (withL l k v) := by
  subst hold; subst hthere
  refine (put_any h.a T hs hl).mono ?_
  rintro e w' ⟨n, old, er, there, M, rfl, hg, ⟨rfl, hM, hT, rfl, rfl⟩ | ⟨_, _, _, _, hr2, hM⟩⟩
  · exact ⟨n, M, rfl, h.grew hg (fun _ hk => hk), hM, hT⟩
  · exfalso
    rw [List.length_append] at hr2
    omega

end
end Go.Proofs.Ytbmlpdkbiipcmaa
