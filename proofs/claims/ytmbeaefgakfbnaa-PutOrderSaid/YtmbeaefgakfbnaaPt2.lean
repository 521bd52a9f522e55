/- Contract of put's at. -/
import Derived.Test.YtmbeaefgakfbnaaPt1
import Derived.Deep.RegionHeld3
namespace Go.Proofs.Ytmbeaefgakfbnaa
open Go.RowKit
set_option linter.all false

theorem keeps {W : World} {b j : Nat} {v : Value} (h : W.cell? ⟨b, j, none⟩ = some v) : (W.setCell ⟨b, j, none⟩ v).cell? ⟨b, j, none⟩ = some v := World.cell?_setCell_same _ _ _ h
theorem SixZ.under {W W' : World} {b n : Nat} (h : SixZ W b) (hb : Below n W W') (hn : b < n) : SixZ W' b := by
  have c : ∀ {j v}, W.cell? ⟨b, j, none⟩ = some v → W'.cell? ⟨b, j, none⟩ = some v := fun {j v} hc => (hb.cell (p := ⟨b, j, none⟩) hn).trans hc
  have f : ∀ {j}, W.frozen? ⟨b, j, none⟩ = false → W'.frozen? ⟨b, j, none⟩ = false := fun {j} hf => (World.frozen?_of_block (a := ⟨b, j, none⟩) (hb.block b hn)).trans hf
  exact ⟨c h.z0, c h.z1, c h.z2, c h.z3, c h.z4, c h.z5, f h.f0, f h.f1, f h.f2, f h.f3, f h.f4, f h.f5⟩

/-- What holds while at's second region goes: the node read lies in a block, the answer's block is new, nothing older has turned. -/
structure AtS (w W : World) (b : Nat) (k v x y s h : Int) : Prop where
  n : Six W b k v x y s h
  z : SixZ W w.heap.size
  o : Below w.heap.size w W
  lt : w.heap.size < b
section
variable {w W W' : World} {b : Nat} {k v x y s h : Int}
theorem AtS.keep (H : AtS w W b k v x y s h) (hb : Below W.heap.size W W') : AtS w W' b k v x y s h :=
  ⟨H.n.keep hb, H.z.keep hb, H.o.trans (hb.mono H.o.size), H.lt⟩
theorem AtS.set2 (H : AtS w W b k v x y s h) : AtS w (W.setCell ⟨b, 2, none⟩ (.int .i64 x)) b k v x y s h := by
  have hb : Below b W (W.setCell ⟨b, 2, none⟩ (.int .i64 x)) := Below.setCell (Below.refl _ _) (Nat.le_refl b) _
  obtain ⟨⟨⟨c0, c1, c2, c3, c4, c5⟩, f0, f1, f2, f3, f4, f5⟩, z, o, lt⟩ := H
  exact ⟨⟨⟨keepc c0 (by decide), keepc c1 (by decide), keeps c2, keepc c3 (by decide), keepc c4 (by decide), keepc c5 (by decide)⟩, by simpa using f0, by simpa using f1, by simpa using f2, by simpa using f3, by simpa using f4, by simpa using f5⟩, z.under hb lt, o.trans (hb.mono (Nat.le_of_lt lt)), lt⟩
theorem AtS.set3 (H : AtS w W b k v x y s h) : AtS w (W.setCell ⟨b, 3, none⟩ (.int .i64 y)) b k v x y s h := by
  have hb : Below b W (W.setCell ⟨b, 3, none⟩ (.int .i64 y)) := Below.setCell (Below.refl _ _) (Nat.le_refl b) _
  obtain ⟨⟨⟨c0, c1, c2, c3, c4, c5⟩, f0, f1, f2, f3, f4, f5⟩, z, o, lt⟩ := H
  exact ⟨⟨⟨keepc c0 (by decide), keepc c1 (by decide), keepc c2 (by decide), keeps c3, keepc c4 (by decide), keepc c5 (by decide)⟩, by simpa using f0, by simpa using f1, by simpa using f2, by simpa using f3, by simpa using f4, by simpa using f5⟩, z.under hb lt, o.trans (hb.mono (Nat.le_of_lt lt)), lt⟩
theorem AtS.new {w2 : World} (hb : Below (w.alloc (.cells #[.int .i64 0, .int .i64 0, .int .i64 0, .int .i64 0, .int .i64 0, .int .i64 0] 55)).heap.size (w.alloc (.cells #[.int .i64 0, .int .i64 0, .int .i64 0, .int .i64 0, .int .i64 0, .int .i64 0] 55)) w2) :
    AtS w (w2.alloc (.cells #[.int .i64 k, .int .i64 v, .int .i64 x, .int .i64 y, .int .i64 s, .int .i64 h] 55)) w2.heap.size k v x y s h := by
  have hs := hb.size
  simp only [World.size_alloc] at hs
  have o := below_past (Below.refl _ w) hb
  exact ⟨Six.new _ _ _ _ _ _ _ _, ((SixZ.new w _).keep hb).keep ((Below.refl _ _).alloc (Nat.le_refl _) _), o.alloc o.size _, by omega⟩

theorem AtS.all (H : AtS w W b k v x y s h) : W.cell? ⟨b, 2, none⟩ = some (.int .i64 x) ∧ W.cell? ⟨b, 3, none⟩ = some (.int .i64 y) ∧ W.frozen? ⟨b, 2, none⟩ = false ∧ W.frozen? ⟨b, 3, none⟩ = false ∧ AtS w W b k v x y s h := ⟨H.n.c2, H.n.c3, H.n.f2, H.n.f3, H⟩
theorem at_keep (hb : Below W.heap.size W W') (H : W.cell? ⟨b, 2, none⟩ = some (.int .i64 x) ∧ W.cell? ⟨b, 3, none⟩ = some (.int .i64 y) ∧ W.frozen? ⟨b, 2, none⟩ = false ∧ W.frozen? ⟨b, 3, none⟩ = false ∧ AtS w W b k v x y s h) :
    W'.cell? ⟨b, 2, none⟩ = some (.int .i64 x) ∧ W'.cell? ⟨b, 3, none⟩ = some (.int .i64 y) ∧ W'.frozen? ⟨b, 2, none⟩ = false ∧ W'.frozen? ⟨b, 3, none⟩ = false ∧ AtS w W' b k v x y s h := (H.2.2.2.2.keep hb).all
theorem at_below (H : W.cell? ⟨b, 2, none⟩ = some (.int .i64 x) ∧ W.cell? ⟨b, 3, none⟩ = some (.int .i64 y) ∧ W.frozen? ⟨b, 2, none⟩ = false ∧ W.frozen? ⟨b, 3, none⟩ = false ∧ AtS w W b k v x y s h) : Below w.heap.size w W := H.2.2.2.2.o
theorem at_s (H : W.cell? ⟨b, 2, none⟩ = some (.int .i64 x) ∧ W.cell? ⟨b, 3, none⟩ = some (.int .i64 y) ∧ W.frozen? ⟨b, 2, none⟩ = false ∧ W.frozen? ⟨b, 3, none⟩ = false ∧ AtS w W b k v x y s h) : AtS w W b k v x y s h := H.2.2.2.2
theorem at_set2 (H : W.cell? ⟨b, 2, none⟩ = some (.int .i64 x) ∧ W.cell? ⟨b, 3, none⟩ = some (.int .i64 y) ∧ W.frozen? ⟨b, 2, none⟩ = false ∧ W.frozen? ⟨b, 3, none⟩ = false ∧ AtS w W b k v x y s h) :
    (W.setCell ⟨b, 2, none⟩ (.int .i64 x)).cell? ⟨b, 2, none⟩ = some (.int .i64 x) ∧ (W.setCell ⟨b, 2, none⟩ (.int .i64 x)).cell? ⟨b, 3, none⟩ = some (.int .i64 y) ∧ (W.setCell ⟨b, 2, none⟩ (.int .i64 x)).frozen? ⟨b, 2, none⟩ = false ∧ (W.setCell ⟨b, 2, none⟩ (.int .i64 x)).frozen? ⟨b, 3, none⟩ = false ∧ AtS w (W.setCell ⟨b, 2, none⟩ (.int .i64 x)) b k v x y s h := H.2.2.2.2.set2.all
theorem at_set3 (H : W.cell? ⟨b, 2, none⟩ = some (.int .i64 x) ∧ W.cell? ⟨b, 3, none⟩ = some (.int .i64 y) ∧ W.frozen? ⟨b, 2, none⟩ = false ∧ W.frozen? ⟨b, 3, none⟩ = false ∧ AtS w W b k v x y s h) :
    (W.setCell ⟨b, 3, none⟩ (.int .i64 y)).cell? ⟨b, 2, none⟩ = some (.int .i64 x) ∧ (W.setCell ⟨b, 3, none⟩ (.int .i64 y)).cell? ⟨b, 3, none⟩ = some (.int .i64 y) ∧ (W.setCell ⟨b, 3, none⟩ (.int .i64 y)).frozen? ⟨b, 2, none⟩ = false ∧ (W.setCell ⟨b, 3, none⟩ (.int .i64 y)).frozen? ⟨b, 3, none⟩ = false ∧ AtS w (W.setCell ⟨b, 3, none⟩ (.int .i64 y)) b k v x y s h := H.2.2.2.2.set3.all
theorem at_new {w2 : World} (hb : Below (w.alloc (.cells #[.int .i64 0, .int .i64 0, .int .i64 0, .int .i64 0, .int .i64 0, .int .i64 0] 55)).heap.size (w.alloc (.cells #[.int .i64 0, .int .i64 0, .int .i64 0, .int .i64 0, .int .i64 0, .int .i64 0] 55)) w2)
    (hW : W = (w2.alloc (.cells #[.int .i64 k, .int .i64 v, .int .i64 x, .int .i64 y, .int .i64 s, .int .i64 h] 55)).drew) :
    W.cell? ⟨w2.heap.size, 2, none⟩ = some (.int .i64 x) ∧ W.cell? ⟨w2.heap.size, 3, none⟩ = some (.int .i64 y) ∧ W.frozen? ⟨w2.heap.size, 2, none⟩ = false ∧ W.frozen? ⟨w2.heap.size, 3, none⟩ = false ∧ AtS w W w2.heap.size k v x y s h := by
  have H := (AtS.new (k := k) (v := v) (x := x) (y := y) (s := s) (h := h) hb).keep ((Below.refl _ _).drew)
  rw [← hW] at H
  exact H.all
end

set_option maxRecDepth 100000 in
set_option maxHeartbeats 3200000 in
theorem at_core (q : Option Addr) (t k v x y s h : Int) (b : Bool) (w : World)
    (cg : ∀ W, Below w.heap.size w W → Calls Try.prog 26 #[.pointer q, .int .i64 t] W fun e w' => e = .returned (.tuple #[.agg #[.int .i64 k, .int .i64 v, .int .i64 x, .int .i64 y, .int .i64 s, .int .i64 h], .bool b]) ∧ Below W.heap.size W w')
    (c1 : ∀ W, Below w.heap.size w W → Calls Try.prog 42 #[.pointer q, .int .i64 t, .int .i64 x] W fun e w' => e = .returned (.int .i64 x) ∧ Below W.heap.size W w')
    (c2 : ∀ W, Below w.heap.size w W → Calls Try.prog 42 #[.pointer q, .int .i64 t, .int .i64 y] W fun e w' => e = .returned (.int .i64 y) ∧ Below W.heap.size W w') :
    Calls Try.prog 34 #[.pointer q, .int .i64 t] w fun e w' => e = .returned (.tuple #[.agg #[.int .i64 k, .int .i64 v, .int .i64 x, .int .i64 y, .int .i64 s, .int .i64 h], .bool b]) ∧ Below w.heap.size w w' := by
  have ba : ∀ o, Below w.heap.size w (w.alloc o) := fun o => (Below.refl _ _).alloc (Nat.le_refl _) _
  go_enter Try.func34, Try.ntmps34
  go_wp2_with (go_at_call 26; ((with_reducible refine (cg _ (ba _)).mono ?_); clear cg; rintro e w2 ⟨rfl, hb⟩))
  go_region_held3 (fun W => W.cell? ⟨w2.heap.size, 2, none⟩ = some (.int .i64 x) ∧ W.cell? ⟨w2.heap.size, 3, none⟩ = some (.int .i64 y) ∧ W.frozen? ⟨w2.heap.size, 2, none⟩ = false ∧ W.frozen? ⟨w2.heap.size, 3, none⟩ = false ∧ AtS w W w2.heap.size k v x y s h)
    (first | exact at_keep hb3 (by assumption) | exact at_set2 (by assumption) | exact at_set3 (by assumption) | exact at_new hb rfl | go_keep)
    (first
      | (go_at_call 42; ((with_reducible refine (c1 _ (at_below (by assumption))).mono ?_); rintro e w3 ⟨rfl, hb3⟩))
      | (go_at_call 42; ((with_reducible refine (c2 _ (at_below (by assumption))).mono ?_); rintro e w3 ⟨rfl, hb3⟩)))
  all_goals (
    have HA := at_s (by assumption)
    clear hb c1 c2
    obtain ⟨⟨⟨c0, c1, c2, c3, c4, c5⟩, -, -, -, -, -, -⟩, zz, ob, -⟩ := HA
    obtain ⟨Wf, hWf, r0, r1, r2, r3, r4, r5, rb⟩ := zz.put (.int .i64 k) (.int .i64 v) (.int .i64 x) (.int .i64 y) (.int .i64 s) (.int .i64 h)
    obtain ⟨z0, z1, z2, z3, z4, z5, f0, f1, f2, f3, f4, f5⟩ := zz
    go_wp2_with (fail)
    rw [← hWf]
    clear hWf z0 z1 z2 z3 z4 z5 f0 f1 f2 f3 f4 f5
    refine bodyPost_ret (v := .tuple #[.agg #[.int .i64 k, .int .i64 v, .int .i64 x, .int .i64 y, .int .i64 s, .int .i64 h], .bool b]) (by simp [results, Try.results34, go_sem, r0, r1, r2, r3, r4, r5]) rfl ⟨rfl, ob.trans rb⟩)
end Go.Proofs.Ytmbeaefgakfbnaa
