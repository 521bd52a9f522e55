/- Package policy: contracts of its functions: within, hold, Clamp, osierref1.Clamp, May, Off, Eager. No condition. -/
import Derived.Test.YteebceecohhegaaChecked
import Derived.LoopTactic
import Derived.WalkKit
import Derived.ProofKit
import Derived.OpenShut
import Derived.ChangeOld
import Derived.Below
import Derived.Deep.RegionHeld3
import Derived.Lib.Hide
namespace Go.Proofs.Yteebceecohhegaa
open Go.ChangeShapes Go.WideShapes Go.ChangeAt Go.RowKit
set_option linter.all false
/-- n, or the nearest from l to h. -/
def wi (l n h : Int) : Int := max l (min n h)
/-- A policy, as a value. -/
def pol (h l c u m : Int) : Value := .agg #[.int .i64 h, .int .i64 l, .int .i64 c, .int .i64 u, .int .i64 m]
theorem wi_ret (a l n h : Int) (e : a = wi l n h) : (Ending.returned (Value.int .i64 a) : Ending) = .returned (.int .i64 (wi l n h)) := by rw [e]
theorem within_any (l n g : Int) (w : World) :
    Calls Try.prog 73 #[.int .i64 l, .int .i64 n, .int .i64 g] w fun e w' => e = .returned (.int .i64 (wi l n g)) ∧ w' = w := by
  go_enter Try.func73, Try.ntmps73
  go_wp2
  all_goals
    go_ret
    exact ⟨wi_ret _ l n g (by unfold wi; omega), rfl⟩
theorem hold_any (l n g : Int) (w : World) :
    Calls Try.prog 55 #[.int .i64 n, .int .i64 l, .int .i64 g] w fun e w' => e = .returned (.int .i64 (wi l n g)) ∧ w' = w := by
  go_enter Try.func55, Try.ntmps55
  go_wp2
  all_goals
    go_ret
    exact ⟨wi_ret _ l n g (by unfold wi; omega), rfl⟩
theorem two_new (w : World) (a b : Obj) : Below w.heap.size w ((w.alloc a).alloc b).drew := by
  have b1 : Below w.heap.size w (w.alloc a) := (Below.refl _ _).alloc (Nat.le_refl _) _
  exact (b1.alloc b1.size _).drew
set_option maxHeartbeats 3200000 in
theorem clamp_any (h l c u m : Int) (w : World) :
    Calls Try.prog 64 #[.agg #[.int .i64 h, .int .i64 l, .int .i64 c, .int .i64 u, .int .i64 m]] w fun e w' => e = .returned (.agg #[.int .i64 (wi 1 h 100000), .int .i64 (wi (-100000) l 0), .int .i64 (wi (-100000) c 100000), .int .i64 (wi (-100000) u 100000), .int .i64 (wi (-100000) m 100000)]) ∧ Below w.heap.size w w' := by
  go_enter Try.func64, Try.ntmps64
  go_wp2_with (fail)
  go_region_held3 (fun W => W.cell? ⟨w.heap.size, 0, none⟩ = some (.int .i64 h) ∧ W.cell? ⟨w.heap.size, 1, none⟩ = some (.int .i64 l) ∧ W.cell? ⟨w.heap.size, 2, none⟩ = some (.int .i64 c) ∧ W.cell? ⟨w.heap.size, 3, none⟩ = some (.int .i64 u) ∧ W.cell? ⟨w.heap.size, 4, none⟩ = some (.int .i64 m))
    (go_keep)
    (first | (go_at_call 73; ((with_reducible refine (within_any _ _ _ _).mono ?_); rintro e w3 ⟨rfl, rfl⟩)))
  all_goals
    go_wp2_with (fail)
    exact bodyPost_ret (v := .agg #[.int .i64 (wi 1 h 100000), .int .i64 (wi (-100000) l 0), .int .i64 (wi (-100000) c 100000), .int .i64 (wi (-100000) u 100000), .int .i64 (wi (-100000) m 100000)]) (by simp [results, Try.results64, go_sem]) rfl ⟨rfl, two_new _ _ _⟩
set_option maxHeartbeats 3200000 in
theorem rclamp_any (h l c u m : Int) (w : World) :
    Calls Try.prog 54 #[.agg #[.int .i64 h, .int .i64 l, .int .i64 c, .int .i64 u, .int .i64 m]] w fun e w' => e = .returned (.agg #[.int .i64 (wi 1 h 100000), .int .i64 (wi (-100000) l 0), .int .i64 (wi (-100000) c 100000), .int .i64 (wi (-100000) u 100000), .int .i64 (wi (-100000) m 100000)]) ∧ Below w.heap.size w w' := by
  go_enter Try.func54, Try.ntmps54
  go_wp2_with (fail)
  go_region_held3 (fun W => W.cell? ⟨w.heap.size, 0, none⟩ = some (.int .i64 h) ∧ W.cell? ⟨w.heap.size, 1, none⟩ = some (.int .i64 l) ∧ W.cell? ⟨w.heap.size, 2, none⟩ = some (.int .i64 c) ∧ W.cell? ⟨w.heap.size, 3, none⟩ = some (.int .i64 u) ∧ W.cell? ⟨w.heap.size, 4, none⟩ = some (.int .i64 m))
    (go_keep)
    (first | (go_at_call 55; ((with_reducible refine (hold_any _ _ _ _).mono ?_); rintro e w3 ⟨rfl, rfl⟩)))
  all_goals
    go_wp2_with (fail)
    exact bodyPost_ret (v := .agg #[.int .i64 (wi 1 h 100000), .int .i64 (wi (-100000) l 0), .int .i64 (wi (-100000) c 100000), .int .i64 (wi (-100000) u 100000), .int .i64 (wi (-100000) m 100000)]) (by simp [results, Try.results54, go_sem]) rfl ⟨rfl, two_new _ _ _⟩
/-- A policy's five cells. -/
def Pl (W : World) (b : Nat) (h l c u m : Int) : Prop := W.cell? ⟨b, 0, none⟩ = some (.int .i64 h) ∧ W.cell? ⟨b, 1, none⟩ = some (.int .i64 l) ∧ W.cell? ⟨b, 2, none⟩ = some (.int .i64 c) ∧ W.cell? ⟨b, 3, none⟩ = some (.int .i64 u) ∧ W.cell? ⟨b, 4, none⟩ = some (.int .i64 m)
section
variable {w W W' : World} {b : Nat} {h l c u m : Int}
theorem Pl.lt (H : Pl W b h l c u m) : b < W.heap.size := World.block_lt_of_cell? W _ H.1
theorem Pl.keep (H : Pl W b h l c u m) (hb : Below W.heap.size W W') : Pl W' b h l c u m := by
  obtain ⟨h0, h1, h2, h3, h4⟩ := H
  have go : ∀ {q : Addr} {v : Value}, W.cell? q = some v → W'.cell? q = some v := fun hc => (hb.cell (World.block_lt_of_cell? W _ hc)).trans hc
  exact ⟨go h0, go h1, go h2, go h3, go h4⟩
theorem Pl.new (w : World) (t : TypeId) : Pl (w.alloc (.cells #[.int .i64 h, .int .i64 l, .int .i64 c, .int .i64 u, .int .i64 m] t)) w.heap.size h l c u m := by
  refine ⟨?_, ?_, ?_, ?_, ?_⟩ <;> simp
theorem one_keep (H : W.cell? ⟨b, 0, none⟩ = some (.int .i64 h) ∧ W.cell? ⟨b, 1, none⟩ = some (.int .i64 l) ∧ W.cell? ⟨b, 2, none⟩ = some (.int .i64 c) ∧ W.cell? ⟨b, 3, none⟩ = some (.int .i64 u) ∧ W.cell? ⟨b, 4, none⟩ = some (.int .i64 m) ∧ Below w.heap.size w W) (hb : Below W.heap.size W W') : W'.cell? ⟨b, 0, none⟩ = some (.int .i64 h) ∧ W'.cell? ⟨b, 1, none⟩ = some (.int .i64 l) ∧ W'.cell? ⟨b, 2, none⟩ = some (.int .i64 c) ∧ W'.cell? ⟨b, 3, none⟩ = some (.int .i64 u) ∧ W'.cell? ⟨b, 4, none⟩ = some (.int .i64 m) ∧ Below w.heap.size w W' := by
  obtain ⟨h0, h1, h2, h3, h4, h5⟩ := H
  obtain ⟨g0, g1, g2, g3, g4⟩ := Pl.keep ⟨h0, h1, h2, h3, h4⟩ hb
  exact ⟨g0, g1, g2, g3, g4, h5.trans (hb.mono h5.size)⟩
theorem one_new (w : World) (t : TypeId) (h l c u m : Int) (W : World) (hW : W = (w.alloc (.cells #[.int .i64 h, .int .i64 l, .int .i64 c, .int .i64 u, .int .i64 m] t)).drew) : W.cell? ⟨w.heap.size, 0, none⟩ = some (.int .i64 h) ∧ W.cell? ⟨w.heap.size, 1, none⟩ = some (.int .i64 l) ∧ W.cell? ⟨w.heap.size, 2, none⟩ = some (.int .i64 c) ∧ W.cell? ⟨w.heap.size, 3, none⟩ = some (.int .i64 u) ∧ W.cell? ⟨w.heap.size, 4, none⟩ = some (.int .i64 m) ∧ Below w.heap.size w W := by
  subst hW
  obtain ⟨g0, g1, g2, g3, g4⟩ := (Pl.new w t (h := h) (l := l) (c := c) (u := u) (m := m)).keep (Below.refl _ _).drew
  exact ⟨g0, g1, g2, g3, g4, ((Below.refl _ _).alloc (Nat.le_refl _) _).drew⟩
theorem one_below (H : W.cell? ⟨b, 0, none⟩ = some (.int .i64 h) ∧ W.cell? ⟨b, 1, none⟩ = some (.int .i64 l) ∧ W.cell? ⟨b, 2, none⟩ = some (.int .i64 c) ∧ W.cell? ⟨b, 3, none⟩ = some (.int .i64 u) ∧ W.cell? ⟨b, 4, none⟩ = some (.int .i64 m) ∧ Below w.heap.size w W) : Below w.heap.size w W := H.2.2.2.2.2
end
/-- What Clamp brings a policy to, number by number. -/
def Cl (h l c u m h' l' c' u' m' : Int) : Prop := wi 1 h 100000 = h' ∧ wi (-100000) l 0 = l' ∧ wi (-100000) c 100000 = c' ∧ wi (-100000) u 100000 = u' ∧ wi (-100000) m 100000 = m'
instance (h l c u m h' l' c' u' m' : Int) : Decidable (Cl h l c u m h' l' c' u' m') := by unfold Cl; exact inferInstance
theorem clamp_to (h l c u m h' l' c' u' m' : Int) (e : Cl h l c u m h' l' c' u' m') (w : World) :
    Calls Try.prog 64 #[.agg #[.int .i64 h, .int .i64 l, .int .i64 c, .int .i64 u, .int .i64 m]] w fun e w' => e = .returned (.agg #[.int .i64 h', .int .i64 l', .int .i64 c', .int .i64 u', .int .i64 m']) ∧ Below w.heap.size w w' := by
  obtain ⟨rfl, rfl, rfl, rfl, rfl⟩ := e
  exact clamp_any h l c u m w
theorem rclamp_to (h l c u m h' l' c' u' m' : Int) (e : Cl h l c u m h' l' c' u' m') (w : World) :
    Calls Try.prog 54 #[.agg #[.int .i64 h, .int .i64 l, .int .i64 c, .int .i64 u, .int .i64 m]] w fun e w' => e = .returned (.agg #[.int .i64 h', .int .i64 l', .int .i64 c', .int .i64 u', .int .i64 m']) ∧ Below w.heap.size w w' := by
  obtain ⟨rfl, rfl, rfl, rfl, rfl⟩ := e
  exact rclamp_any h l c u m w
theorem fld0 (h l c u m : Int) (w : World) : (Instr.field 26 (.agg #[.int .i64 h, .int .i64 l, .int .i64 c, .int .i64 u, .int .i64 m]) 0).run Try.prog w = .ok (.int .i64 h) w := by kernel_rfl
theorem fld1 (h l c u m : Int) (w : World) : (Instr.field 26 (.agg #[.int .i64 h, .int .i64 l, .int .i64 c, .int .i64 u, .int .i64 m]) 1).run Try.prog w = .ok (.int .i64 l) w := by kernel_rfl
theorem fld2 (h l c u m : Int) (w : World) : (Instr.field 26 (.agg #[.int .i64 h, .int .i64 l, .int .i64 c, .int .i64 u, .int .i64 m]) 2).run Try.prog w = .ok (.int .i64 c) w := by kernel_rfl
theorem fld3 (h l c u m : Int) (w : World) : (Instr.field 26 (.agg #[.int .i64 h, .int .i64 l, .int .i64 c, .int .i64 u, .int .i64 m]) 3).run Try.prog w = .ok (.int .i64 u) w := by kernel_rfl
theorem fld4 (h l c u m : Int) (w : World) : (Instr.field 26 (.agg #[.int .i64 h, .int .i64 l, .int .i64 c, .int .i64 u, .int .i64 m]) 4).run Try.prog w = .ok (.int .i64 m) w := by kernel_rfl
theorem bst {w W W' : World} (h : Below w.heap.size w W) (h' : Below W.heap.size W W') : Below w.heap.size w W' := h.trans (h'.mono h.size)
end Go.Proofs.Yteebceecohhegaa
