/- Worlds in which policies lie: two parameters as they came, what Clamp told of one, and a variable that may be written. -/
import Derived.Test.YtndlnekibfcjnaaPoN
namespace Go.Proofs.Ytndlnekibfcjnaa
open Go.RowKit
set_option linter.all false
section
variable {w W W' : World} {b b' k : Nat} {h l c u m x : Int}
/-- A policy's five cells, which may be written. -/
structure Fv (W : World) (b : Nat) (h l c u m : Int) : Prop where
  p : Pl W b h l c u m
  f : ∀ j, j < 5 → W.frozen? ⟨b, j, none⟩ = false
theorem setO {W : World} {b j b' k : Nat} {u v : Value} (h : W.cell? ⟨b, j, none⟩ = some v) (hne : b' ≠ b ∨ k ≠ j) : (W.setCell ⟨b', k, none⟩ u).cell? ⟨b, j, none⟩ = some v :=
  (World.cell?_setCell_other _ _ _ _ (by intro e; cases e; omega)).trans h
theorem Pl.set (H : Pl W b h l c u m) (hne : b' ≠ b) (v : Value) : Pl (W.setCell ⟨b', k, none⟩ v) b h l c u m := by
  obtain ⟨h0, h1, h2, h3, h4⟩ := H
  exact ⟨setO h0 (.inl hne), setO h1 (.inl hne), setO h2 (.inl hne), setO h3 (.inl hne), setO h4 (.inl hne)⟩
theorem setS {W : World} {b j : Nat} {u v : Value} (h : W.cell? ⟨b, j, none⟩ = some v) : (W.setCell ⟨b, j, none⟩ u).cell? ⟨b, j, none⟩ = some u := World.cell?_setCell_same _ _ _ h
theorem Pl.past (H : Pl W b h l c u m) (o : Obj) : Pl (W.alloc o) b h l c u m := H.keep ((Below.refl _ _).alloc (Nat.le_refl _) _)
theorem Fv.keep (H : Fv W b h l c u m) (hb : Below W.heap.size W W') : Fv W' b h l c u m :=
  ⟨H.p.keep hb, fun j hj => (World.frozen?_of_block (a := ⟨b, j, none⟩) (hb.block b H.p.lt)).trans (H.f j hj)⟩
theorem Fv.past (H : Fv W b h l c u m) (o : Obj) : Fv (W.alloc o) b h l c u m := H.keep ((Below.refl _ _).alloc (Nat.le_refl _) _)
theorem Fv.new (w : World) (t : TypeId) : Fv (w.alloc (.cells #[.int .i64 h, .int .i64 l, .int .i64 c, .int .i64 u, .int .i64 m] t)) w.heap.size h l c u m := by
  refine ⟨Pl.new w t, fun j hj => ?_⟩
  match j, hj with
  | 0, _ | 1, _ | 2, _ | 3, _ | 4, _ => simp
theorem Fv.set0 (H : Fv W b h l c u m) : Fv (W.setCell ⟨b, 0, none⟩ (.int .i64 x)) b x l c u m := by
  obtain ⟨⟨h0, h1, h2, h3, h4⟩, f⟩ := H
  refine ⟨⟨setS h0, setO h1 (.inr (by decide)), setO h2 (.inr (by decide)), setO h3 (.inr (by decide)), setO h4 (.inr (by decide))⟩, fun j hj => ?_⟩
  rw [World.frozen?_setCell]; exact f j hj
theorem Fv.set1 (H : Fv W b h l c u m) : Fv (W.setCell ⟨b, 1, none⟩ (.int .i64 x)) b h x c u m := by
  obtain ⟨⟨h0, h1, h2, h3, h4⟩, f⟩ := H
  refine ⟨⟨setO h0 (.inr (by decide)), setS h1, setO h2 (.inr (by decide)), setO h3 (.inr (by decide)), setO h4 (.inr (by decide))⟩, fun j hj => ?_⟩
  rw [World.frozen?_setCell]; exact f j hj
theorem Fv.set2 (H : Fv W b h l c u m) : Fv (W.setCell ⟨b, 2, none⟩ (.int .i64 x)) b h l x u m := by
  obtain ⟨⟨h0, h1, h2, h3, h4⟩, f⟩ := H
  refine ⟨⟨setO h0 (.inr (by decide)), setO h1 (.inr (by decide)), setS h2, setO h3 (.inr (by decide)), setO h4 (.inr (by decide))⟩, fun j hj => ?_⟩
  rw [World.frozen?_setCell]; exact f j hj
theorem Fv.set3 (H : Fv W b h l c u m) : Fv (W.setCell ⟨b, 3, none⟩ (.int .i64 x)) b h l c x m := by
  obtain ⟨⟨h0, h1, h2, h3, h4⟩, f⟩ := H
  refine ⟨⟨setO h0 (.inr (by decide)), setO h1 (.inr (by decide)), setO h2 (.inr (by decide)), setS h3, setO h4 (.inr (by decide))⟩, fun j hj => ?_⟩
  rw [World.frozen?_setCell]; exact f j hj
theorem Fv.set4 (H : Fv W b h l c u m) : Fv (W.setCell ⟨b, 4, none⟩ (.int .i64 x)) b h l c u x := by
  obtain ⟨⟨h0, h1, h2, h3, h4⟩, f⟩ := H
  refine ⟨⟨setO h0 (.inr (by decide)), setO h1 (.inr (by decide)), setO h2 (.inr (by decide)), setO h3 (.inr (by decide)), setS h4⟩, fun j hj => ?_⟩
  rw [World.frozen?_setCell]; exact f j hj
end
/-- The worlds of PolicyEach. -/
structure EW (w W : World) (A M : Nat) (h0 l0 c0 u0 m0 h1 l1 c1 u1 m1 x0 x1 x2 x3 x4 y0 y1 y2 y3 y4 : Int) : Prop where
  p : Pl W w.heap.size h0 l0 c0 u0 m0
  q : Pl W (w.heap.size + 1) h1 l1 c1 u1 m1
  a : Pl W A x0 x1 x2 x3 x4
  m : Fv W M y0 y1 y2 y3 y4
  d0 : w.heap.size + 1 < M
  d2 : A < M
  b : Below w.heap.size w W
section
variable {w W W' : World} {A M : Nat} {h0 l0 c0 u0 m0 h1 l1 c1 u1 m1 x0 x1 x2 x3 x4 y0 y1 y2 y3 y4 z : Int}
theorem EW.name {X : World} (E : EW w X A M h0 l0 c0 u0 m0 h1 l1 c1 u1 m1 x0 x1 x2 x3 x4 y0 y1 y2 y3 y4) : ∃ W', W' = X ∧ EW w W' A M h0 l0 c0 u0 m0 h1 l1 c1 u1 m1 x0 x1 x2 x3 x4 y0 y1 y2 y3 y4 := ⟨X, rfl, E⟩
theorem EW.past (H : EW w W A M h0 l0 c0 u0 m0 h1 l1 c1 u1 m1 x0 x1 x2 x3 x4 y0 y1 y2 y3 y4) (o : Obj) : EW w (W.alloc o) A M h0 l0 c0 u0 m0 h1 l1 c1 u1 m1 x0 x1 x2 x3 x4 y0 y1 y2 y3 y4 :=
  ⟨H.p.past o, H.q.past o, H.a.past o, H.m.past o, H.d0, H.d2, bst H.b ((Below.refl _ _).alloc (Nat.le_refl _) _)⟩
theorem EW.keep (H : EW w W A M h0 l0 c0 u0 m0 h1 l1 c1 u1 m1 x0 x1 x2 x3 x4 y0 y1 y2 y3 y4) (hb : Below W.heap.size W W') : EW w W' A M h0 l0 c0 u0 m0 h1 l1 c1 u1 m1 x0 x1 x2 x3 x4 y0 y1 y2 y3 y4 :=
  ⟨H.p.keep hb, H.q.keep hb, H.a.keep hb, H.m.keep hb, H.d0, H.d2, bst H.b hb⟩
theorem EW.set0 (H : EW w W A M h0 l0 c0 u0 m0 h1 l1 c1 u1 m1 x0 x1 x2 x3 x4 y0 y1 y2 y3 y4) : EW w (W.setCell ⟨M, 0, none⟩ (.int .i64 z)) A M h0 l0 c0 u0 m0 h1 l1 c1 u1 m1 x0 x1 x2 x3 x4 z y1 y2 y3 y4 :=
  have d0 := H.d0
  have d2 := H.d2
  ⟨H.p.set (by omega) _, H.q.set (by omega) _, H.a.set (by omega) _, H.m.set0, d0, d2, Below.setCell H.b (by show w.heap.size ≤ M; omega) _⟩
theorem EW.set1 (H : EW w W A M h0 l0 c0 u0 m0 h1 l1 c1 u1 m1 x0 x1 x2 x3 x4 y0 y1 y2 y3 y4) : EW w (W.setCell ⟨M, 1, none⟩ (.int .i64 z)) A M h0 l0 c0 u0 m0 h1 l1 c1 u1 m1 x0 x1 x2 x3 x4 y0 z y2 y3 y4 :=
  have d0 := H.d0
  have d2 := H.d2
  ⟨H.p.set (by omega) _, H.q.set (by omega) _, H.a.set (by omega) _, H.m.set1, d0, d2, Below.setCell H.b (by show w.heap.size ≤ M; omega) _⟩
theorem EW.set2 (H : EW w W A M h0 l0 c0 u0 m0 h1 l1 c1 u1 m1 x0 x1 x2 x3 x4 y0 y1 y2 y3 y4) : EW w (W.setCell ⟨M, 2, none⟩ (.int .i64 z)) A M h0 l0 c0 u0 m0 h1 l1 c1 u1 m1 x0 x1 x2 x3 x4 y0 y1 z y3 y4 :=
  have d0 := H.d0
  have d2 := H.d2
  ⟨H.p.set (by omega) _, H.q.set (by omega) _, H.a.set (by omega) _, H.m.set2, d0, d2, Below.setCell H.b (by show w.heap.size ≤ M; omega) _⟩
theorem EW.set3 (H : EW w W A M h0 l0 c0 u0 m0 h1 l1 c1 u1 m1 x0 x1 x2 x3 x4 y0 y1 y2 y3 y4) : EW w (W.setCell ⟨M, 3, none⟩ (.int .i64 z)) A M h0 l0 c0 u0 m0 h1 l1 c1 u1 m1 x0 x1 x2 x3 x4 y0 y1 y2 z y4 :=
  have d0 := H.d0
  have d2 := H.d2
  ⟨H.p.set (by omega) _, H.q.set (by omega) _, H.a.set (by omega) _, H.m.set3, d0, d2, Below.setCell H.b (by show w.heap.size ≤ M; omega) _⟩
theorem EW.set4 (H : EW w W A M h0 l0 c0 u0 m0 h1 l1 c1 u1 m1 x0 x1 x2 x3 x4 y0 y1 y2 y3 y4) : EW w (W.setCell ⟨M, 4, none⟩ (.int .i64 z)) A M h0 l0 c0 u0 m0 h1 l1 c1 u1 m1 x0 x1 x2 x3 x4 y0 y1 y2 y3 z :=
  have d0 := H.d0
  have d2 := H.d2
  ⟨H.p.set (by omega) _, H.q.set (by omega) _, H.a.set (by omega) _, H.m.set4, d0, d2, Below.setCell H.b (by show w.heap.size ≤ M; omega) _⟩
theorem EW.setQ (H : EW w W A M h0 l0 c0 u0 m0 h1 l1 c1 u1 m1 x0 x1 x2 x3 x4 y0 y1 y2 y3 y4) : EW w (((((W.setCell ⟨M, 0, none⟩ (.int .i64 h1)).setCell ⟨M, 1, none⟩ (.int .i64 l1)).setCell ⟨M, 2, none⟩ (.int .i64 c1)).setCell ⟨M, 3, none⟩ (.int .i64 u1)).setCell ⟨M, 4, none⟩ (.int .i64 m1)) A M h0 l0 c0 u0 m0 h1 l1 c1 u1 m1 x0 x1 x2 x3 x4 h1 l1 c1 u1 m1 := H.set0.set1.set2.set3.set4
theorem EW.first {t : TypeId} (w : World) {W1 : World} (hb : Below ((w.alloc (.cells #[.int .i64 h0, .int .i64 l0, .int .i64 c0, .int .i64 u0, .int .i64 m0] t)).alloc (.cells #[.int .i64 h1, .int .i64 l1, .int .i64 c1, .int .i64 u1, .int .i64 m1] t)).heap.size ((w.alloc (.cells #[.int .i64 h0, .int .i64 l0, .int .i64 c0, .int .i64 u0, .int .i64 m0] t)).alloc (.cells #[.int .i64 h1, .int .i64 l1, .int .i64 c1, .int .i64 u1, .int .i64 m1] t)) W1) : EW w ((W1.alloc (.cells #[.int .i64 x0, .int .i64 x1, .int .i64 x2, .int .i64 x3, .int .i64 x4] t)).alloc (.cells #[.int .i64 y0, .int .i64 y1, .int .i64 y2, .int .i64 y3, .int .i64 y4] t)) W1.heap.size (W1.heap.size + 1) h0 l0 c0 u0 m0 h1 l1 c1 u1 m1 x0 x1 x2 x3 x4 y0 y1 y2 y3 y4 := by
  have s1 := hb.size
  simp only [World.size_alloc] at s1
  have b1 : Below (w.alloc (.cells #[.int .i64 h0, .int .i64 l0, .int .i64 c0, .int .i64 u0, .int .i64 m0] t)).heap.size (w.alloc (.cells #[.int .i64 h0, .int .i64 l0, .int .i64 c0, .int .i64 u0, .int .i64 m0] t)) ((w.alloc (.cells #[.int .i64 h0, .int .i64 l0, .int .i64 c0, .int .i64 u0, .int .i64 m0] t)).alloc (.cells #[.int .i64 h1, .int .i64 l1, .int .i64 c1, .int .i64 u1, .int .i64 m1] t)) := (Below.refl _ _).alloc (Nat.le_refl _) _
  have b0 : Below w.heap.size w (w.alloc (.cells #[.int .i64 h0, .int .i64 l0, .int .i64 c0, .int .i64 u0, .int .i64 m0] t)) := (Below.refl _ _).alloc (Nat.le_refl _) _
  have b2 : ∀ X o, Below X.heap.size X (World.alloc X o) := fun X o => (Below.refl _ _).alloc (Nat.le_refl _) _
  have hp := (((Pl.new w t (h := h0) (l := l0) (c := c0) (u := u0) (m := m0)).keep b1).keep hb).keep (b2 W1 (.cells #[.int .i64 x0, .int .i64 x1, .int .i64 x2, .int .i64 x3, .int .i64 x4] t))
  have hq := ((Pl.new (w.alloc (.cells #[.int .i64 h0, .int .i64 l0, .int .i64 c0, .int .i64 u0, .int .i64 m0] t)) t (h := h1) (l := l1) (c := c1) (u := u1) (m := m1)).keep hb).keep (b2 W1 (.cells #[.int .i64 x0, .int .i64 x1, .int .i64 x2, .int .i64 x3, .int .i64 x4] t))
  have ha := Pl.new W1 t (h := x0) (l := x1) (c := x2) (u := x3) (m := x4)
  have hm := Fv.new (W1.alloc (.cells #[.int .i64 x0, .int .i64 x1, .int .i64 x2, .int .i64 x3, .int .i64 x4] t)) t (h := y0) (l := y1) (c := y2) (u := y3) (m := y4)
  rw [World.size_alloc] at hq hm
  have B := bst (bst (bst b0 b1) hb) (b2 W1 (.cells #[.int .i64 x0, .int .i64 x1, .int .i64 x2, .int .i64 x3, .int .i64 x4] t))
  exact ⟨hp.keep (b2 _ _), hq.keep (b2 _ _), ha.keep (b2 _ _), hm, by omega, by omega, bst B (b2 _ _)⟩
theorem two_set {b i j k : Nat} {u v z : Value} (H : W.cell? ⟨b, i, none⟩ = some u ∧ W.cell? ⟨b, j, none⟩ = some v) (hne : M ≠ b) : (W.setCell ⟨M, k, none⟩ z).cell? ⟨b, i, none⟩ = some u ∧ (W.setCell ⟨M, k, none⟩ z).cell? ⟨b, j, none⟩ = some v := ⟨setO H.1 (.inl hne), setO H.2 (.inl hne)⟩
theorem two_drew {b i j : Nat} {u v : Value} (h1 : W.cell? ⟨b, i, none⟩ = some u) (h2 : W.cell? ⟨b, j, none⟩ = some v) (W' : World) (hW : W' = W.drew) : W'.cell? ⟨b, i, none⟩ = some u ∧ W'.cell? ⟨b, j, none⟩ = some v := by subst hW; exact ⟨by simpa using h1, by simpa using h2⟩
end
end Go.Proofs.Ytndlnekibfcjnaa
