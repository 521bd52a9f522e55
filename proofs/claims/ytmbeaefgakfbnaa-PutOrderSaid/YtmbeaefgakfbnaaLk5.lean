/- Contracts of look.farthest, Min, Max. -/
import Derived.Test.YtmbeaefgakfbnaaLk4
import Derived.Deep.CutRange
import Derived.Deep.CutBlock
namespace Go.Proofs.Ytmbeaefgakfbnaa
open Go.RowKit
set_option linter.all false

theorem Six.past {W : World} {b : Nat} {m0 m1 m2 m3 m4 m5 : Int} (h : Six W b m0 m1 m2 m3 m4 m5) (o : Obj) : Six (W.alloc o) b m0 m1 m2 m3 m4 m5 := h.keep ((Below.refl _ _).alloc (Nat.le_refl _) _)
theorem Six.under {W W' : World} {b n : Nat} {m0 m1 m2 m3 m4 m5 : Int} (h : Six W b m0 m1 m2 m3 m4 m5) (hb : Below n W W') (hn : b < n) : Six W' b m0 m1 m2 m3 m4 m5 := by
  have c : ∀ {j v}, W.cell? ⟨b, j, none⟩ = some v → W'.cell? ⟨b, j, none⟩ = some v := fun {j v} hc => (hb.cell (p := ⟨b, j, none⟩) hn).trans hc
  have f : ∀ {j}, W.frozen? ⟨b, j, none⟩ = false → W'.frozen? ⟨b, j, none⟩ = false := fun {j} hf => (World.frozen?_of_block (a := ⟨b, j, none⟩) (hb.block b hn)).trans hf
  exact ⟨⟨c h.c0, c h.c1, c h.c2, c h.c3, c h.c4, c h.c5⟩, f h.f0, f h.f1, f h.f2, f h.f3, f h.f4, f h.f5⟩

theorem NodeAt.only {W W' : World} {S : Nat → Prop} {b : Nat} {m0 m1 m2 m3 m4 m5 : Int} (h : NodeAt W b m0 m1 m2 m3 m4 m5) (o : Only S W W') (hb : ¬ S b) : NodeAt W' b m0 m1 m2 m3 m4 m5 :=
  ⟨o.cell h.c0 hb, o.cell h.c1 hb, o.cell h.c2 hb, o.cell h.c3 hb, o.cell h.c4 hb, o.cell h.c5 hb⟩
theorem Two.only {W W' : World} {S : Nat → Prop} {b : Nat} {m0 m1 : Int} (h : Two W b m0 m1) (o : Only S W W') (hb : ¬ S b) : Two W' b m0 m1 :=
  have f : ∀ {j}, W.frozen? ⟨b, j, none⟩ = false → W'.frozen? ⟨b, j, none⟩ = false := fun {j} hf => (World.frozen?_of_block (a := ⟨b, j, none⟩) (o.block b h.lt hb)).trans hf
  ⟨o.cell h.c0 hb, o.cell h.c1 hb, f h.f0, f h.f1⟩
theorem Only.setAt {a W : World} {b j : Nat} (h : Only (fun k => k = b) a W) (u : Value) : Only (fun k => k = b) a (W.setCell ⟨b, j, none⟩ u) := Only.setCell (p := ⟨b, j, none⟩) h (.inl rfl) u
/-- All six cells written: still six that can be written; nothing else has turned. -/
theorem Six.put6 {W : World} {b : Nat} {m0 m1 m2 m3 m4 m5 : Int} (h : Six W b m0 m1 m2 m3 m4 m5) (u0 u1 u2 u3 u4 u5 : Int) :
    ∃ Wf, Wf = ((((((W.setCell ⟨b, 0, none⟩ (.int .i64 u0)).setCell ⟨b, 1, none⟩ (.int .i64 u1)).setCell ⟨b, 2, none⟩ (.int .i64 u2)).setCell ⟨b, 3, none⟩ (.int .i64 u3)).setCell ⟨b, 4, none⟩ (.int .i64 u4)).setCell ⟨b, 5, none⟩ (.int .i64 u5)) ∧ Six Wf b u0 u1 u2 u3 u4 u5 ∧ Only (fun k => k = b) W Wf ∧ Below b W Wf := by
  obtain ⟨Wf, e, hN, hB⟩ := h.put u0 u1 u2 u3 u4 u5
  refine ⟨Wf, e, ⟨hN, ?_, ?_, ?_, ?_, ?_, ?_⟩, ?_, hB⟩
  · rw [e]; simp only [World.frozen?_setCell]; exact h.f0
  · rw [e]; simp only [World.frozen?_setCell]; exact h.f1
  · rw [e]; simp only [World.frozen?_setCell]; exact h.f2
  · rw [e]; simp only [World.frozen?_setCell]; exact h.f3
  · rw [e]; simp only [World.frozen?_setCell]; exact h.f4
  · rw [e]; simp only [World.frozen?_setCell]; exact h.f5
  · rw [e]
    exact ((((((Only.refl (fun k => k = b) W).setAt _).setAt _).setAt _).setAt _).setAt _).setAt _

/-! ### The two ways down -/

end Go.Proofs.Ytmbeaefgakfbnaa
