/- Package policy: contracts of its functions: within, hold, Clamp, osierref1.Clamp, May, Off, Eager. No condition. A policy as a parameter: five integers, as they lie. -/
import Derived.Test.YtijepfabkalcoaaChecked
import Derived.LoopTactic
import Derived.WalkKit
import Derived.ProofKit
import Derived.OpenShut
import Derived.ChangeOld
import Derived.Below
import Derived.Deep.RegionHeld3
import Derived.Lib.Hide
import Derived.Deep.Slices
import Derived.Deep.Fields
import Derived.ChangeArms
namespace Go.Proofs.Ytijepfabkalcoaa
open Go.ChangeShapes Go.WideShapes Go.ChangeAt Go.RowKit
set_option linter.all false
/-- n, or the nearest from l to h. -/
def wi (l n h : Int) : Int := max l (min n h)
theorem wi_ret (a l n h : Int) (e : a = wi l n h) : (Ending.returned (Value.int .i64 a) : Ending) = .returned (.int .i64 (wi l n h)) := by rw [e]
theorem within_any (l n g : Int) (w : World) :
    Calls Try.prog 133 #[.int .i64 l, .int .i64 n, .int .i64 g] w fun e w' => e = .returned (.int .i64 (wi l n g)) ∧ w' = w := by
  go_enter Try.func133, Try.ntmps133
  go_wp2
  all_goals
    go_ret
    exact ⟨wi_ret _ l n g (by unfold wi; omega), rfl⟩
theorem two_new (w : World) (a b : Obj) : Below w.heap.size w ((w.alloc a).alloc b).drew := by
  have b1 : Below w.heap.size w (w.alloc a) := (Below.refl _ _).alloc (Nat.le_refl _) _
  exact (b1.alloc b1.size _).drew
set_option maxHeartbeats 3200000 in
theorem clamp_any (h l c u m : Int) (w : World) :
    Calls Try.prog 120 #[.agg #[.int .i64 h, .int .i64 l, .int .i64 c, .int .i64 u, .int .i64 m]] w fun e w' => e = .returned (.agg #[.int .i64 (wi 1 h 100000), .int .i64 (wi (-100000) l 0), .int .i64 (wi (-100000) c 100000), .int .i64 (wi (-100000) u 100000), .int .i64 (wi (-100000) m 100000)]) ∧ Below w.heap.size w w' := by
  go_enter Try.func120, Try.ntmps120
  go_wp2_with (fail)
  go_region_held3 (fun W => W.cell? ⟨w.heap.size, 0, none⟩ = some (.int .i64 h) ∧ W.cell? ⟨w.heap.size, 1, none⟩ = some (.int .i64 l) ∧ W.cell? ⟨w.heap.size, 2, none⟩ = some (.int .i64 c) ∧ W.cell? ⟨w.heap.size, 3, none⟩ = some (.int .i64 u) ∧ W.cell? ⟨w.heap.size, 4, none⟩ = some (.int .i64 m))
    (go_keep)
    (first | (go_at_call 133; ((with_reducible refine (within_any _ _ _ _).mono ?_); rintro e w3 ⟨rfl, rfl⟩)))
  all_goals
    go_wp2_with (fail)
    exact bodyPost_ret (v := .agg #[.int .i64 (wi 1 h 100000), .int .i64 (wi (-100000) l 0), .int .i64 (wi (-100000) c 100000), .int .i64 (wi (-100000) u 100000), .int .i64 (wi (-100000) m 100000)]) (by simp [results, Try.results120, go_sem]) rfl ⟨rfl, two_new _ _ _⟩
theorem eager_any (w : World) :
    Calls Try.prog 41 #[] w fun e w' => e = .returned (.agg #[.int .i64 1, .int .i64 (-1), .int .i64 2, .int .i64 (-1), .int .i64 3]) ∧ Below w.heap.size w w' := by
  go_enter Try.func41, Try.ntmps41
  go_wp2_with (fail)
  exact bodyPost_ret (v := .agg #[.int .i64 1, .int .i64 (-1), .int .i64 2, .int .i64 (-1), .int .i64 3]) (by simp [results, Try.results41, go_sem]) rfl ⟨rfl, (Below.refl _ _).alloc (Nat.le_refl _) _⟩
/-- A policy's five cells. -/
def Pl (W : World) (b : Nat) (h l c u m : Int) : Prop := W.cell? ⟨b, 0, none⟩ = some (.int .i64 h) ∧ W.cell? ⟨b, 1, none⟩ = some (.int .i64 l) ∧ W.cell? ⟨b, 2, none⟩ = some (.int .i64 c) ∧ W.cell? ⟨b, 3, none⟩ = some (.int .i64 u) ∧ W.cell? ⟨b, 4, none⟩ = some (.int .i64 m)
section
variable {w W W' : World} {b : Nat} {h l c u m : Int}
theorem Pl.lt (H : Pl W b h l c u m) : b < W.heap.size := World.block_lt_of_cell? W _ H.1
theorem Pl.keep (H : Pl W b h l c u m) (hb : Below W.heap.size W W') : Pl W' b h l c u m := by
  obtain ⟨h0, h1, h2, h3, h4⟩ := H
  have go : ∀ {q : Addr} {v : Value}, W.cell? q = some v → W'.cell? q = some v := fun hc => (hb.cell (World.block_lt_of_cell? W _ hc)).trans hc
  exact ⟨go h0, go h1, go h2, go h3, go h4⟩
theorem Pl.new (w : World) (t : TypeId) : Pl (w.alloc (.cells #[.int .i64 h, .int .i64 l, .int .i64 c, .int .i64 u, .int .i64 m] t)) w.heap.size h l c u m := by
  refine ⟨?_, ?_, ?_, ?_, ?_⟩ <;> simp
end
/-- What Clamp brings a policy to, number by number. -/
def Cl (h l c u m h' l' c' u' m' : Int) : Prop := wi 1 h 100000 = h' ∧ wi (-100000) l 0 = l' ∧ wi (-100000) c 100000 = c' ∧ wi (-100000) u 100000 = u' ∧ wi (-100000) m 100000 = m'
instance (h l c u m h' l' c' u' m' : Int) : Decidable (Cl h l c u m h' l' c' u' m') := by unfold Cl; exact inferInstance
theorem clamp_to (h l c u m h' l' c' u' m' : Int) (e : Cl h l c u m h' l' c' u' m') (w : World) :
    Calls Try.prog 120 #[.agg #[.int .i64 h, .int .i64 l, .int .i64 c, .int .i64 u, .int .i64 m]] w fun e w' => e = .returned (.agg #[.int .i64 h', .int .i64 l', .int .i64 c', .int .i64 u', .int .i64 m']) ∧ Below w.heap.size w w' := by
  obtain ⟨rfl, rfl, rfl, rfl, rfl⟩ := e
  exact clamp_any h l c u m w
theorem bst {w W W' : World} (h : Below w.heap.size w W) (h' : Below W.heap.size W W') : Below w.heap.size w W' := h.trans (h'.mono h.size)
end Go.Proofs.Ytijepfabkalcoaa

namespace Go.Proofs.Ytijepfabkalcoaa
open Go.RowKit Go.Deep Go.ChangeShapes Go.WideShapes
set_option linter.all false
set_option maxRecDepth 20000
theorem fields_pol {H : Type} {enc : TypeId × Value → H} {w : World} {fuel : Nat} {x : DataW H × List MemPlace} {cs : List Value} (h : DataW.trod enc Try.prog w 0 (fun _ => true) true fuel 26 cs = some x) :
    ∃ h l c u m : Int, cs = [.int .i64 h, .int .i64 l, .int .i64 c, .int .i64 u, .int .i64 m] := by
  obtain ⟨ys, n, _, _, hlen, hyl, hf⟩ := DataW.trod_struct Try.underlying26 h
  have hone : Try.prog.cellsOf 3 = 1 := by kernel_rfl
  have h2 : Try.prog.cellsOf 26 = 5 := by kernel_rfl
  rw [h2] at hlen
  have some_of : ∀ i, i < 5 → ∃ y, ys[i]? = some y := fun i hi => ⟨_, List.getElem?_eq_getElem (by rw [hyl]; exact hi)⟩
  match cs, hlen with
  | [v0, v1, v2, v3, v4], _ =>
    obtain ⟨y0, e0⟩ := some_of 0 (by decide)
    obtain ⟨y1, e1⟩ := some_of 1 (by decide)
    obtain ⟨y2, e2⟩ := some_of 2 (by decide)
    obtain ⟨y3, e3⟩ := some_of 3 (by decide)
    obtain ⟨y4, e4⟩ := some_of 4 (by decide)
    have g0 : DataW.trod enc Try.prog w 0 (fun _ => true) true n 3 (([v0, v1, v2, v3, v4].drop 0).take (Try.prog.cellsOf 3)) = ys[0]? := hf 0 _ rfl
    have g1 : DataW.trod enc Try.prog w 0 (fun _ => true) true n 3 (([v0, v1, v2, v3, v4].drop 1).take (Try.prog.cellsOf 3)) = ys[1]? := hf 1 _ rfl
    have g2 : DataW.trod enc Try.prog w 0 (fun _ => true) true n 3 (([v0, v1, v2, v3, v4].drop 2).take (Try.prog.cellsOf 3)) = ys[2]? := hf 2 _ rfl
    have g3 : DataW.trod enc Try.prog w 0 (fun _ => true) true n 3 (([v0, v1, v2, v3, v4].drop 3).take (Try.prog.cellsOf 3)) = ys[3]? := hf 3 _ rfl
    have g4 : DataW.trod enc Try.prog w 0 (fun _ => true) true n 3 (([v0, v1, v2, v3, v4].drop 4).take (Try.prog.cellsOf 3)) = ys[4]? := hf 4 _ rfl
    rw [hone] at g0 g1 g2 g3 g4
    rw [e0] at g0
    rw [e1] at g1
    rw [e2] at g2
    rw [e3] at g3
    rw [e4] at g4
    obtain ⟨n0, a0, _, b0⟩ := DataW.trod_int Try.underlying3 g0
    obtain ⟨n1, a1, _, b1⟩ := DataW.trod_int Try.underlying3 g1
    obtain ⟨n2, a2, _, b2⟩ := DataW.trod_int Try.underlying3 g2
    obtain ⟨n3, a3, _, b3⟩ := DataW.trod_int Try.underlying3 g3
    obtain ⟨n4, a4, _, b4⟩ := DataW.trod_int Try.underlying3 g4
    simp at a0 a1 a2 a3 a4
    subst a0; subst a1; subst a2; subst a3; subst a4
    exact ⟨n0, n1, n2, n3, n4, rfl⟩
end Go.Proofs.Ytijepfabkalcoaa
