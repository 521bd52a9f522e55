/- How long the pairs of a parameter may be: the form's own reach. No condition: lemmas. -/
import Derived.Test.YtadfnbmogobopaaLfO
import Derived.SizedLaws
import Derived.Test.YtadfnbmogobopaaBlZ
namespace Go.Proofs.Ytadfnbmogobopaa
open Go.RowKit Go.Deep Go.ChangeShapes Go.WideShapes
set_option linter.all false
set_option maxRecDepth 20000

section
variable {H : Type} {enc : TypeId × Value → H} {w : World} {fuel : Nat} {x : DataW H × List MemPlace}
theorem wt_ans {v0 v1 v2 v3 v4 : Value} {a : Option Addr} {len cap : Nat} (h : DataW.trod enc Try.prog w 0 (fun _ => true) true fuel 34 [v0, v1, v2, v3, v4, .slice a len cap] = some x) (hb : ∀ n ∈ x.1.weights Try.prog 34, n ≤ reachBytes) : len ≤ 8796093022208 := by
  obtain ⟨ys, n, _, hx, hlen, hyl, hf⟩ := DataW.trod_struct Try.underlying34 h
  have hone4 : Try.prog.cellsOf 22 = 1 := by kernel_rfl
  have g4 : DataW.trod enc Try.prog w 0 (fun _ => true) true n 22 (([v0, v1, v2, v3, v4, .slice a len cap].drop 5).take (Try.prog.cellsOf 22)) = ys[4]? := hf 4 _ rfl
  rw [hone4] at g4
  obtain ⟨y, e4⟩ : ∃ y, ys[4]? = some y := ⟨_, List.getElem?_eq_getElem (by rw [hyl]; decide)⟩
  rw [e4] at g4
  refine wt_pairs (x := y) (by simpa using g4) (fun k hk => hb k ?_)
  rw [hx]
  simp only [DataW.weights, Try.underlying34]
  exact DataW.weights_mem_each (j := 4) (t := 22) (d := y.1) rfl (by rw [List.getElem?_map, e4]; rfl) k hk
end

/-- Cells of a block, from its first on. -/
def Blk (W : World) (b : Nat) (vs : List Value) : Prop := ∀ (j : Nat) (v : Value), vs[j]? = some v → W.cell? ⟨b, j, none⟩ = some v
theorem Blk.keep {W W' : World} {b : Nat} {vs : List Value} (h : Blk W b vs) (hb : Below W.heap.size W W') : Blk W' b vs := fun j v hj => by
  have := h j v hj
  exact (hb.cell (World.block_lt_of_cell? W _ this)).trans this
theorem Blk.past {W : World} {b : Nat} {vs : List Value} (h : Blk W b vs) (o : Obj) : Blk (W.alloc o) b vs := h.keep ((Below.refl _ _).alloc (Nat.le_refl _) _)
theorem Blk.new (W : World) (cs : Array Value) (t : TypeId) : Blk (W.alloc (.cells cs t)) W.heap.size cs.toList := fun j v hj => by
  rw [World.cell?_alloc_new]
  simpa using hj
theorem Blk.behind {W W' : World} {cs : Array Value} {t : TypeId} (hb : Below (W.alloc (.cells cs t)).heap.size (W.alloc (.cells cs t)) W') : Blk W' W.heap.size cs.toList := (Blk.new W cs t).keep hb
end Go.Proofs.Ytadfnbmogobopaa
