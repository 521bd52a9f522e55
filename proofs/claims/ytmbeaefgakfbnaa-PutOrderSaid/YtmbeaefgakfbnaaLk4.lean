/- Contract of look.Nth. -/
import Derived.Test.YtmbeaefgakfbnaaLk2
namespace Go.Proofs.Ytmbeaefgakfbnaa
open Go.RowKit
set_option linter.all false

/-- A block of two cells that can be written. -/
structure Two (W : World) (b : Nat) (m0 m1 : Int) : Prop where
  c0 : W.cell? ⟨b, 0, none⟩ = some (.int .i64 m0)
  c1 : W.cell? ⟨b, 1, none⟩ = some (.int .i64 m1)
  f0 : W.frozen? ⟨b, 0, none⟩ = false
  f1 : W.frozen? ⟨b, 1, none⟩ = false
theorem Two.lt {W : World} {b : Nat} {m0 m1 : Int} (h : Two W b m0 m1) : b < W.heap.size := World.block_lt_of_cell? W _ h.c0
theorem Two.keep {W W' : World} {b : Nat} {m0 m1 : Int} (h : Two W b m0 m1) (hb : Below W.heap.size W W') : Two W' b m0 m1 := by
  have hl := h.lt
  have c : ∀ {j v}, W.cell? ⟨b, j, none⟩ = some v → W'.cell? ⟨b, j, none⟩ = some v := fun {j v} hc => (hb.cell (p := ⟨b, j, none⟩) hl).trans hc
  have f : ∀ {j}, W.frozen? ⟨b, j, none⟩ = false → W'.frozen? ⟨b, j, none⟩ = false := fun {j} hf => (World.frozen?_of_block (a := ⟨b, j, none⟩) (hb.block b hl)).trans hf
  exact ⟨c h.c0, c h.c1, f h.f0, f h.f1⟩
theorem Two.new (w : World) (m0 m1 : Int) (t : TypeId) : Two (w.alloc (.cells #[.int .i64 m0, .int .i64 m1] t)) w.heap.size m0 m1 := by
  constructor <;> simp
theorem Two.past {W : World} {b : Nat} {m0 m1 : Int} (h : Two W b m0 m1) (o : Obj) : Two (W.alloc o) b m0 m1 := h.keep ((Below.refl _ _).alloc (Nat.le_refl _) _)
theorem Two.put {W : World} {b : Nat} {m0 m1 : Int} (h : Two W b m0 m1) (u0 u1 : Int) :
    ∃ Wf, Wf = ((W.setCell ⟨b, 0, none⟩ (.int .i64 u0)).setCell ⟨b, 1, none⟩ (.int .i64 u1)) ∧ Wf.cell? ⟨b, 0, none⟩ = some (.int .i64 u0) ∧ Wf.cell? ⟨b, 1, none⟩ = some (.int .i64 u1) ∧ Below b W Wf :=
  ⟨_, rfl, keepc (World.cell?_setCell_same _ _ _ h.c0) (by decide), World.cell?_setCell_same _ _ _ (keepc h.c1 (by decide)),
    Below.setCell (Below.setCell (Below.refl _ _) (Nat.le_refl b) _) (Nat.le_refl b) _⟩

theorem Two.under {W W' : World} {b n : Nat} {m0 m1 : Int} (h : Two W b m0 m1) (hb : Below n W W') (hn : b < n) : Two W' b m0 m1 := by
  have c : ∀ {j v}, W.cell? ⟨b, j, none⟩ = some v → W'.cell? ⟨b, j, none⟩ = some v := fun {j v} hc => (hb.cell (p := ⟨b, j, none⟩) hn).trans hc
  have f : ∀ {j}, W.frozen? ⟨b, j, none⟩ = false → W'.frozen? ⟨b, j, none⟩ = false := fun {j} hf => (World.frozen?_of_block (a := ⟨b, j, none⟩) (hb.block b hn)).trans hf
  exact ⟨c h.c0, c h.c1, f h.f0, f h.f1⟩

/-- What Nth tells. -/
def nthL (L : List It) (t i : Int) : Option Pr := if i < 0 ∨ nv L t 4 ≤ i then none else nthG L t i 0
theorem nthL_tree {L : List It} {t : Int} {l : List Pr} (h : Tree L t l) (hl : l.length ≤ 10000) (i : Int) : nthL L t i = if i < 0 then none else l[i.toNat]? := by
  unfold nthL
  rw [h.size.1]
  by_cases h0 : i < 0
  · rw [if_pos (.inl h0), if_pos h0]
  · rw [if_neg h0]
    by_cases h1 : (l.length : Int) ≤ i
    · rw [if_pos (.inr h1), List.getElem?_eq_none (by omega)]
    · rw [if_neg (by omega), ← nth_tree h 0 i.toNat (by omega) (by omega)]
      congr 1
      omega

end Go.Proofs.Ytmbeaefgakfbnaa
