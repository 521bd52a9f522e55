/- A policy as a parameter: five integers, as they lie. -/
import Derived.Test.YteebceecohhegaaPoG
import Derived.Deep.Slices
import Derived.Deep.Fields
import Derived.ChangeArms
namespace Go.Proofs.Yteebceecohhegaa
open Go.RowKit Go.Deep Go.ChangeShapes Go.WideShapes
set_option linter.all false
set_option maxRecDepth 20000
theorem fields_pol {H : Type} {enc : TypeId × Value → H} {w : World} {fuel : Nat} {x : DataW H × List MemPlace} {cs : List Value} (h : DataW.trod enc Try.prog w 0 (fun _ => true) true fuel 26 cs = some x) :
    ∃ h l c u m : Int, cs = [.int .i64 h, .int .i64 l, .int .i64 c, .int .i64 u, .int .i64 m] := by
  obtain ⟨ys, n, _, _, hlen, hyl, hf⟩ := DataW.trod_struct Try.underlying26 h
  have hone : Try.prog.cellsOf 3 = 1 := by kernel_rfl
  have h2 : Try.prog.cellsOf 26 = 5 := by kernel_rfl
  rw [h2] at hlen
  have some_of : ∀ i, i < 5 → ∃ y, ys[i]? = some y := fun i hi => ⟨_, List.getElem?_eq_getElem (by rw [hyl]; exact hi)⟩
  match cs, hlen with
  | [v0, v1, v2, v3, v4], _ =>
    obtain ⟨y0, e0⟩ := some_of 0 (by decide)
    obtain ⟨y1, e1⟩ := some_of 1 (by decide)
    obtain ⟨y2, e2⟩ := some_of 2 (by decide)
    obtain ⟨y3, e3⟩ := some_of 3 (by decide)
    obtain ⟨y4, e4⟩ := some_of 4 (by decide)
    have g0 : DataW.trod enc Try.prog w 0 (fun _ => true) true n 3 (([v0, v1, v2, v3, v4].drop 0).take (Try.prog.cellsOf 3)) = ys[0]? := hf 0 _ rfl
    have g1 : DataW.trod enc Try.prog w 0 (fun _ => true) true n 3 (([v0, v1, v2, v3, v4].drop 1).take (Try.prog.cellsOf 3)) = ys[1]? := hf 1 _ rfl
    have g2 : DataW.trod enc Try.prog w 0 (fun _ => true) true n 3 (([v0, v1, v2, v3, v4].drop 2).take (Try.prog.cellsOf 3)) = ys[2]? := hf 2 _ rfl
    have g3 : DataW.trod enc Try.prog w 0 (fun _ => true) true n 3 (([v0, v1, v2, v3, v4].drop 3).take (Try.prog.cellsOf 3)) = ys[3]? := hf 3 _ rfl
    have g4 : DataW.trod enc Try.prog w 0 (fun _ => true) true n 3 (([v0, v1, v2, v3, v4].drop 4).take (Try.prog.cellsOf 3)) = ys[4]? := hf 4 _ rfl
    rw [hone] at g0 g1 g2 g3 g4
    rw [e0] at g0
    rw [e1] at g1
    rw [e2] at g2
    rw [e3] at g3
    rw [e4] at g4
    obtain ⟨n0, a0, _, b0⟩ := DataW.trod_int Try.underlying3 g0
    obtain ⟨n1, a1, _, b1⟩ := DataW.trod_int Try.underlying3 g1
    obtain ⟨n2, a2, _, b2⟩ := DataW.trod_int Try.underlying3 g2
    obtain ⟨n3, a3, _, b3⟩ := DataW.trod_int Try.underlying3 g3
    obtain ⟨n4, a4, _, b4⟩ := DataW.trod_int Try.underlying3 g4
    simp at a0 a1 a2 a3 a4
    subst a0; subst a1; subst a2; subst a3; subst a4
    exact ⟨n0, n1, n2, n3, n4, rfl⟩
end Go.Proofs.Yteebceecohhegaa
