/- Package policy: contracts of its functions: within, hold, Clamp, osierref1.Clamp, May, Off, Eager. No condition. -/
import Derived.Test.YtndlnekibfcjnaaChecked
import Derived.LoopTactic
import Derived.WalkKit
import Derived.ProofKit
import Derived.OpenShut
import Derived.ChangeOld
import Derived.Below
import Derived.Deep.RegionHeld3
import Derived.Lib.Hide
namespace Go.Proofs.Ytndlnekibfcjnaa
open Go.ChangeShapes Go.WideShapes Go.ChangeAt Go.RowKit
set_option linter.all false
/-- n, or the nearest from l to h. -/
def wi (l n h : Int) : Int := max l (min n h)
/-- A policy, as a value. -/
def pol (h l c u m : Int) : Value := .agg #[.int .i64 h, .int .i64 l, .int .i64 c, .int .i64 u, .int .i64 m]
theorem wi_ret (a l n h : Int) (e : a = wi l n h) : (Ending.returned (Value.int .i64 a) : Ending) = .returned (.int .i64 (wi l n h)) := by rw [e]
theorem within_any (l n g : Int) (w : World) :
    Calls Try.prog 13 #[.int .i64 l, .int .i64 n, .int .i64 g] w fun e w' => e = .returned (.int .i64 (wi l n g)) ∧ w' = w := by
  go_enter Try.func13, Try.ntmps13
  go_wp2
  all_goals
    go_ret
    exact ⟨wi_ret _ l n g (by unfold wi; omega), rfl⟩
theorem hold_any (l n g : Int) (w : World) :
    Calls Try.prog 14 #[.int .i64 n, .int .i64 l, .int .i64 g] w fun e w' => e = .returned (.int .i64 (wi l n g)) ∧ w' = w := by
  go_enter Try.func14, Try.ntmps14
  go_wp2
  all_goals
    go_ret
    exact ⟨wi_ret _ l n g (by unfold wi; omega), rfl⟩
theorem two_new (w : World) (a b : Obj) : Below w.heap.size w ((w.alloc a).alloc b).drew := by
  have b1 : Below w.heap.size w (w.alloc a) := (Below.refl _ _).alloc (Nat.le_refl _) _
  exact (b1.alloc b1.size _).drew
set_option maxHeartbeats 3200000 in
theorem clamp_any (h l c u m : Int) (w : World) :
    Calls Try.prog 7 #[.agg #[.int .i64 h, .int .i64 l, .int .i64 c, .int .i64 u, .int .i64 m]] w fun e w' => e = .returned (.agg #[.int .i64 (wi 1 h 100000), .int .i64 (wi (-100000) l 0), .int .i64 (wi (-100000) c 100000), .int .i64 (wi (-100000) u 100000), .int .i64 (wi (-100000) m 100000)]) ∧ Below w.heap.size w w' := by
  go_enter Try.func7, Try.ntmps7
  go_wp2_with (fail)
  go_region_held3 (fun W => W.cell? ⟨w.heap.size, 0, none⟩ = some (.int .i64 h) ∧ W.cell? ⟨w.heap.size, 1, none⟩ = some (.int .i64 l) ∧ W.cell? ⟨w.heap.size, 2, none⟩ = some (.int .i64 c) ∧ W.cell? ⟨w.heap.size, 3, none⟩ = some (.int .i64 u) ∧ W.cell? ⟨w.heap.size, 4, none⟩ = some (.int .i64 m))
    (go_keep)
    (first | (go_at_call 13; ((with_reducible refine (within_any _ _ _ _).mono ?_); rintro e w3 ⟨rfl, rfl⟩)))
  all_goals
    go_wp2_with (fail)
    exact bodyPost_ret (v := .agg #[.int .i64 (wi 1 h 100000), .int .i64 (wi (-100000) l 0), .int .i64 (wi (-100000) c 100000), .int .i64 (wi (-100000) u 100000), .int .i64 (wi (-100000) m 100000)]) (by simp [results, Try.results7, go_sem]) rfl ⟨rfl, two_new _ _ _⟩
set_option maxHeartbeats 3200000 in
theorem rclamp_any (h l c u m : Int) (w : World) :
    Calls Try.prog 8 #[.agg #[.int .i64 h, .int .i64 l, .int .i64 c, .int .i64 u, .int .i64 m]] w fun e w' => e = .returned (.agg #[.int .i64 (wi 1 h 100000), .int .i64 (wi (-100000) l 0), .int .i64 (wi (-100000) c 100000), .int .i64 (wi (-100000) u 100000), .int .i64 (wi (-100000) m 100000)]) ∧ Below w.heap.size w w' := by
  go_enter Try.func8, Try.ntmps8
  go_wp2_with (fail)
  go_region_held3 (fun W => W.cell? ⟨w.heap.size, 0, none⟩ = some (.int .i64 h) ∧ W.cell? ⟨w.heap.size, 1, none⟩ = some (.int .i64 l) ∧ W.cell? ⟨w.heap.size, 2, none⟩ = some (.int .i64 c) ∧ W.cell? ⟨w.heap.size, 3, none⟩ = some (.int .i64 u) ∧ W.cell? ⟨w.heap.size, 4, none⟩ = some (.int .i64 m))
    (go_keep)
    (first | (go_at_call 14; ((with_reducible refine (hold_any _ _ _ _).mono ?_); rintro e w3 ⟨rfl, rfl⟩)))
  all_goals
    go_wp2_with (fail)
    exact bodyPost_ret (v := .agg #[.int .i64 (wi 1 h 100000), .int .i64 (wi (-100000) l 0), .int .i64 (wi (-100000) c 100000), .int .i64 (wi (-100000) u 100000), .int .i64 (wi (-100000) m 100000)]) (by simp [results, Try.results8, go_sem]) rfl ⟨rfl, two_new _ _ _⟩
theorem off_any (w : World) :
    Calls Try.prog 10 #[] w fun e w' => e = .returned (.agg #[.int .i64 100000, .int .i64 (-100000), .int .i64 0, .int .i64 0, .int .i64 0]) ∧ Below w.heap.size w w' := by
  go_enter Try.func10, Try.ntmps10
  go_wp2_with (fail)
  exact bodyPost_ret (v := .agg #[.int .i64 100000, .int .i64 (-100000), .int .i64 0, .int .i64 0, .int .i64 0]) (by simp [results, Try.results10, go_sem]) rfl ⟨rfl, (Below.refl _ _).alloc (Nat.le_refl _) _⟩
theorem eager_any (w : World) :
    Calls Try.prog 11 #[] w fun e w' => e = .returned (.agg #[.int .i64 1, .int .i64 (-1), .int .i64 2, .int .i64 (-1), .int .i64 3]) ∧ Below w.heap.size w w' := by
  go_enter Try.func11, Try.ntmps11
  go_wp2_with (fail)
  exact bodyPost_ret (v := .agg #[.int .i64 1, .int .i64 (-1), .int .i64 2, .int .i64 (-1), .int .i64 3]) (by simp [results, Try.results11, go_sem]) rfl ⟨rfl, (Below.refl _ _).alloc (Nat.le_refl _) _⟩
/-- A policy's five cells. -/
def Pl (W : World) (b : Nat) (h l c u m : Int) : Prop := W.cell? ⟨b, 0, none⟩ = some (.int .i64 h) ∧ W.cell? ⟨b, 1, none⟩ = some (.int .i64 l) ∧ W.cell? ⟨b, 2, none⟩ = some (.int .i64 c) ∧ W.cell? ⟨b, 3, none⟩ = some (.int .i64 u) ∧ W.cell? ⟨b, 4, none⟩ = some (.int .i64 m)
section
variable {w W W' : World} {b : Nat} {h l c u m : Int}
theorem Pl.lt (H : Pl W b h l c u m) : b < W.heap.size := World.block_lt_of_cell? W _ H.1
theorem Pl.keep (H : Pl W b h l c u m) (hb : Below W.heap.size W W') : Pl W' b h l c u m := by
  obtain ⟨h0, h1, h2, h3, h4⟩ := H
  have go : ∀ {q : Addr} {v : Value}, W.cell? q = some v → W'.cell? q = some v := fun hc => (hb.cell (World.block_lt_of_cell? W _ hc)).trans hc
  exact ⟨go h0, go h1, go h2, go h3, go h4⟩
theorem Pl.new (w : World) (t : TypeId) : Pl (w.alloc (.cells #[.int .i64 h, .int .i64 l, .int .i64 c, .int .i64 u, .int .i64 m] t)) w.heap.size h l c u m := by
  refine ⟨?_, ?_, ?_, ?_, ?_⟩ <;> simp
theorem one_keep (H : W.cell? ⟨b, 0, none⟩ = some (.int .i64 h) ∧ W.cell? ⟨b, 1, none⟩ = some (.int .i64 l) ∧ W.cell? ⟨b, 2, none⟩ = some (.int .i64 c) ∧ W.cell? ⟨b, 3, none⟩ = some (.int .i64 u) ∧ W.cell? ⟨b, 4, none⟩ = some (.int .i64 m) ∧ Below w.heap.size w W) (hb : Below W.heap.size W W') : W'.cell? ⟨b, 0, none⟩ = some (.int .i64 h) ∧ W'.cell? ⟨b, 1, none⟩ = some (.int .i64 l) ∧ W'.cell? ⟨b, 2, none⟩ = some (.int .i64 c) ∧ W'.cell? ⟨b, 3, none⟩ = some (.int .i64 u) ∧ W'.cell? ⟨b, 4, none⟩ = some (.int .i64 m) ∧ Below w.heap.size w W' := by
  obtain ⟨h0, h1, h2, h3, h4, h5⟩ := H
  obtain ⟨g0, g1, g2, g3, g4⟩ := Pl.keep ⟨h0, h1, h2, h3, h4⟩ hb
  exact ⟨g0, g1, g2, g3, g4, h5.trans (hb.mono h5.size)⟩
theorem one_new (w : World) (t : TypeId) (h l c u m : Int) (W : World) (hW : W = (w.alloc (.cells #[.int .i64 h, .int .i64 l, .int .i64 c, .int .i64 u, .int .i64 m] t)).drew) : W.cell? ⟨w.heap.size, 0, none⟩ = some (.int .i64 h) ∧ W.cell? ⟨w.heap.size, 1, none⟩ = some (.int .i64 l) ∧ W.cell? ⟨w.heap.size, 2, none⟩ = some (.int .i64 c) ∧ W.cell? ⟨w.heap.size, 3, none⟩ = some (.int .i64 u) ∧ W.cell? ⟨w.heap.size, 4, none⟩ = some (.int .i64 m) ∧ Below w.heap.size w W := by
  subst hW
  obtain ⟨g0, g1, g2, g3, g4⟩ := (Pl.new w t (h := h) (l := l) (c := c) (u := u) (m := m)).keep (Below.refl _ _).drew
  exact ⟨g0, g1, g2, g3, g4, ((Below.refl _ _).alloc (Nat.le_refl _) _).drew⟩
theorem one_below (H : W.cell? ⟨b, 0, none⟩ = some (.int .i64 h) ∧ W.cell? ⟨b, 1, none⟩ = some (.int .i64 l) ∧ W.cell? ⟨b, 2, none⟩ = some (.int .i64 c) ∧ W.cell? ⟨b, 3, none⟩ = some (.int .i64 u) ∧ W.cell? ⟨b, 4, none⟩ = some (.int .i64 m) ∧ Below w.heap.size w W) : Below w.heap.size w W := H.2.2.2.2.2
end
/-- What Clamp brings a policy to, number by number. -/
def Cl (h l c u m h' l' c' u' m' : Int) : Prop := wi 1 h 100000 = h' ∧ wi (-100000) l 0 = l' ∧ wi (-100000) c 100000 = c' ∧ wi (-100000) u 100000 = u' ∧ wi (-100000) m 100000 = m'
instance (h l c u m h' l' c' u' m' : Int) : Decidable (Cl h l c u m h' l' c' u' m') := by unfold Cl; exact inferInstance
set_option maxRecDepth 100000 in
set_option maxHeartbeats 3200000 in
theorem may_all (h l c u m : Int) (e0 : wi 1 h 100000 = h) (e1 : wi (-100000) l 0 = l) (e2 : wi (-100000) c 100000 = c) (e3 : wi (-100000) u 100000 = u) (e4 : wi (-100000) m 100000 = m) (w : World) :
    Calls Try.prog 9 #[.agg #[.int .i64 h, .int .i64 l, .int .i64 c, .int .i64 u, .int .i64 m]] w fun e w' => e = .returned (.bool true) ∧ Below w.heap.size w w' := by
  go_enter Try.func9, Try.ntmps9
  go_wp2_with (fail)
  go_region_held3 (fun W => W.cell? ⟨w.heap.size, 0, none⟩ = some (.int .i64 h) ∧ W.cell? ⟨w.heap.size, 1, none⟩ = some (.int .i64 l) ∧ W.cell? ⟨w.heap.size, 2, none⟩ = some (.int .i64 c) ∧ W.cell? ⟨w.heap.size, 3, none⟩ = some (.int .i64 u) ∧ W.cell? ⟨w.heap.size, 4, none⟩ = some (.int .i64 m) ∧ Below w.heap.size w W)
    (first | exact one_new _ _ _ _ _ _ _ _ rfl | exact one_keep (by assumption) hb | go_keep)
    (first | (go_at_call 7; ((with_reducible refine (clamp_any _ _ _ _ _ _).mono ?_); rintro e w3 ⟨rfl, hb⟩)))
  all_goals
    have h9 := one_below (by assumption)
    go_wp2_with (fail)
    go_ret
    exact ⟨rfl, h9⟩
set_option maxRecDepth 100000 in
set_option maxHeartbeats 3200000 in
theorem may_no0 (h l c u m : Int) (n0 : ¬ wi 1 h 100000 = h) (n0s : ¬ h = wi 1 h 100000) (w : World) :
    Calls Try.prog 9 #[.agg #[.int .i64 h, .int .i64 l, .int .i64 c, .int .i64 u, .int .i64 m]] w fun e w' => e = .returned (.bool false) ∧ Below w.heap.size w w' := by
  go_enter Try.func9, Try.ntmps9
  go_wp2_with (fail)
  go_region_held3 (fun W => W.cell? ⟨w.heap.size, 0, none⟩ = some (.int .i64 h) ∧ W.cell? ⟨w.heap.size, 1, none⟩ = some (.int .i64 l) ∧ W.cell? ⟨w.heap.size, 2, none⟩ = some (.int .i64 c) ∧ W.cell? ⟨w.heap.size, 3, none⟩ = some (.int .i64 u) ∧ W.cell? ⟨w.heap.size, 4, none⟩ = some (.int .i64 m) ∧ Below w.heap.size w W)
    (first | exact one_new _ _ _ _ _ _ _ _ rfl | exact one_keep (by assumption) hb | go_keep)
    (first | (go_at_call 7; ((with_reducible refine (clamp_any _ _ _ _ _ _).mono ?_); rintro e w3 ⟨rfl, hb⟩)))
  all_goals
    have h9 := one_below (by assumption)
    go_wp2_with (fail)
    go_ret
    exact ⟨rfl, h9⟩
set_option maxRecDepth 100000 in
set_option maxHeartbeats 3200000 in
theorem may_no1 (h l c u m : Int) (e0 : wi 1 h 100000 = h) (n1 : ¬ wi (-100000) l 0 = l) (n1s : ¬ l = wi (-100000) l 0) (w : World) :
    Calls Try.prog 9 #[.agg #[.int .i64 h, .int .i64 l, .int .i64 c, .int .i64 u, .int .i64 m]] w fun e w' => e = .returned (.bool false) ∧ Below w.heap.size w w' := by
  go_enter Try.func9, Try.ntmps9
  go_wp2_with (fail)
  go_region_held3 (fun W => W.cell? ⟨w.heap.size, 0, none⟩ = some (.int .i64 h) ∧ W.cell? ⟨w.heap.size, 1, none⟩ = some (.int .i64 l) ∧ W.cell? ⟨w.heap.size, 2, none⟩ = some (.int .i64 c) ∧ W.cell? ⟨w.heap.size, 3, none⟩ = some (.int .i64 u) ∧ W.cell? ⟨w.heap.size, 4, none⟩ = some (.int .i64 m) ∧ Below w.heap.size w W)
    (first | exact one_new _ _ _ _ _ _ _ _ rfl | exact one_keep (by assumption) hb | go_keep)
    (first | (go_at_call 7; ((with_reducible refine (clamp_any _ _ _ _ _ _).mono ?_); rintro e w3 ⟨rfl, hb⟩)))
  all_goals
    have h9 := one_below (by assumption)
    go_wp2_with (fail)
    go_ret
    exact ⟨rfl, h9⟩
set_option maxRecDepth 100000 in
set_option maxHeartbeats 3200000 in
theorem may_no2 (h l c u m : Int) (e0 : wi 1 h 100000 = h) (e1 : wi (-100000) l 0 = l) (n2 : ¬ wi (-100000) c 100000 = c) (n2s : ¬ c = wi (-100000) c 100000) (w : World) :
    Calls Try.prog 9 #[.agg #[.int .i64 h, .int .i64 l, .int .i64 c, .int .i64 u, .int .i64 m]] w fun e w' => e = .returned (.bool false) ∧ Below w.heap.size w w' := by
  go_enter Try.func9, Try.ntmps9
  go_wp2_with (fail)
  go_region_held3 (fun W => W.cell? ⟨w.heap.size, 0, none⟩ = some (.int .i64 h) ∧ W.cell? ⟨w.heap.size, 1, none⟩ = some (.int .i64 l) ∧ W.cell? ⟨w.heap.size, 2, none⟩ = some (.int .i64 c) ∧ W.cell? ⟨w.heap.size, 3, none⟩ = some (.int .i64 u) ∧ W.cell? ⟨w.heap.size, 4, none⟩ = some (.int .i64 m) ∧ Below w.heap.size w W)
    (first | exact one_new _ _ _ _ _ _ _ _ rfl | exact one_keep (by assumption) hb | go_keep)
    (first | (go_at_call 7; ((with_reducible refine (clamp_any _ _ _ _ _ _).mono ?_); rintro e w3 ⟨rfl, hb⟩)))
  all_goals
    have h9 := one_below (by assumption)
    go_wp2_with (fail)
    go_ret
    exact ⟨rfl, h9⟩
set_option maxRecDepth 100000 in
set_option maxHeartbeats 3200000 in
theorem may_no3 (h l c u m : Int) (e0 : wi 1 h 100000 = h) (e1 : wi (-100000) l 0 = l) (e2 : wi (-100000) c 100000 = c) (n3 : ¬ wi (-100000) u 100000 = u) (n3s : ¬ u = wi (-100000) u 100000) (w : World) :
    Calls Try.prog 9 #[.agg #[.int .i64 h, .int .i64 l, .int .i64 c, .int .i64 u, .int .i64 m]] w fun e w' => e = .returned (.bool false) ∧ Below w.heap.size w w' := by
  go_enter Try.func9, Try.ntmps9
  go_wp2_with (fail)
  go_region_held3 (fun W => W.cell? ⟨w.heap.size, 0, none⟩ = some (.int .i64 h) ∧ W.cell? ⟨w.heap.size, 1, none⟩ = some (.int .i64 l) ∧ W.cell? ⟨w.heap.size, 2, none⟩ = some (.int .i64 c) ∧ W.cell? ⟨w.heap.size, 3, none⟩ = some (.int .i64 u) ∧ W.cell? ⟨w.heap.size, 4, none⟩ = some (.int .i64 m) ∧ Below w.heap.size w W)
    (first | exact one_new _ _ _ _ _ _ _ _ rfl | exact one_keep (by assumption) hb | go_keep)
    (first | (go_at_call 7; ((with_reducible refine (clamp_any _ _ _ _ _ _).mono ?_); rintro e w3 ⟨rfl, hb⟩)))
  all_goals
    have h9 := one_below (by assumption)
    go_wp2_with (fail)
    go_ret
    exact ⟨rfl, h9⟩
set_option maxRecDepth 100000 in
set_option maxHeartbeats 3200000 in
theorem may_no4 (h l c u m : Int) (e0 : wi 1 h 100000 = h) (e1 : wi (-100000) l 0 = l) (e2 : wi (-100000) c 100000 = c) (e3 : wi (-100000) u 100000 = u) (n4 : ¬ wi (-100000) m 100000 = m) (n4s : ¬ m = wi (-100000) m 100000) (w : World) :
    Calls Try.prog 9 #[.agg #[.int .i64 h, .int .i64 l, .int .i64 c, .int .i64 u, .int .i64 m]] w fun e w' => e = .returned (.bool false) ∧ Below w.heap.size w w' := by
  go_enter Try.func9, Try.ntmps9
  go_wp2_with (fail)
  go_region_held3 (fun W => W.cell? ⟨w.heap.size, 0, none⟩ = some (.int .i64 h) ∧ W.cell? ⟨w.heap.size, 1, none⟩ = some (.int .i64 l) ∧ W.cell? ⟨w.heap.size, 2, none⟩ = some (.int .i64 c) ∧ W.cell? ⟨w.heap.size, 3, none⟩ = some (.int .i64 u) ∧ W.cell? ⟨w.heap.size, 4, none⟩ = some (.int .i64 m) ∧ Below w.heap.size w W)
    (first | exact one_new _ _ _ _ _ _ _ _ rfl | exact one_keep (by assumption) hb | go_keep)
    (first | (go_at_call 7; ((with_reducible refine (clamp_any _ _ _ _ _ _).mono ?_); rintro e w3 ⟨rfl, hb⟩)))
  all_goals
    have h9 := one_below (by assumption)
    go_wp2_with (fail)
    go_ret
    exact ⟨rfl, h9⟩
theorem may_yes (h l c u m : Int) (e : Cl h l c u m h l c u m) (w : World) :
    Calls Try.prog 9 #[.agg #[.int .i64 h, .int .i64 l, .int .i64 c, .int .i64 u, .int .i64 m]] w fun e w' => e = .returned (.bool true) ∧ Below w.heap.size w w' := may_all h l c u m e.1 e.2.1 e.2.2.1 e.2.2.2.1 e.2.2.2.2 w
theorem may_not (h l c u m : Int) (e : ¬ Cl h l c u m h l c u m) (w : World) :
    Calls Try.prog 9 #[.agg #[.int .i64 h, .int .i64 l, .int .i64 c, .int .i64 u, .int .i64 m]] w fun e w' => e = .returned (.bool false) ∧ Below w.heap.size w w' := by
  by_cases e0 : wi 1 h 100000 = h
  · by_cases e1 : wi (-100000) l 0 = l
    · by_cases e2 : wi (-100000) c 100000 = c
      · by_cases e3 : wi (-100000) u 100000 = u
        · by_cases e4 : wi (-100000) m 100000 = m
          · exact absurd ⟨e0, e1, e2, e3, e4⟩ e
          · exact may_no4 h l c u m e0 e1 e2 e3 e4 (fun x => e4 x.symm) w
        · exact may_no3 h l c u m e0 e1 e2 e3 (fun x => e3 x.symm) w
      · exact may_no2 h l c u m e0 e1 e2 (fun x => e2 x.symm) w
    · exact may_no1 h l c u m e0 e1 (fun x => e1 x.symm) w
  · exact may_no0 h l c u m e0 (fun x => e0 x.symm) w
theorem clamp_to (h l c u m h' l' c' u' m' : Int) (e : Cl h l c u m h' l' c' u' m') (w : World) :
    Calls Try.prog 7 #[.agg #[.int .i64 h, .int .i64 l, .int .i64 c, .int .i64 u, .int .i64 m]] w fun e w' => e = .returned (.agg #[.int .i64 h', .int .i64 l', .int .i64 c', .int .i64 u', .int .i64 m']) ∧ Below w.heap.size w w' := by
  obtain ⟨rfl, rfl, rfl, rfl, rfl⟩ := e
  exact clamp_any h l c u m w
theorem rclamp_to (h l c u m h' l' c' u' m' : Int) (e : Cl h l c u m h' l' c' u' m') (w : World) :
    Calls Try.prog 8 #[.agg #[.int .i64 h, .int .i64 l, .int .i64 c, .int .i64 u, .int .i64 m]] w fun e w' => e = .returned (.agg #[.int .i64 h', .int .i64 l', .int .i64 c', .int .i64 u', .int .i64 m']) ∧ Below w.heap.size w w' := by
  obtain ⟨rfl, rfl, rfl, rfl, rfl⟩ := e
  exact rclamp_any h l c u m w
theorem fld0 (h l c u m : Int) (w : World) : (Instr.field 23 (.agg #[.int .i64 h, .int .i64 l, .int .i64 c, .int .i64 u, .int .i64 m]) 0).run Try.prog w = .ok (.int .i64 h) w := by kernel_rfl
theorem fld1 (h l c u m : Int) (w : World) : (Instr.field 23 (.agg #[.int .i64 h, .int .i64 l, .int .i64 c, .int .i64 u, .int .i64 m]) 1).run Try.prog w = .ok (.int .i64 l) w := by kernel_rfl
theorem fld2 (h l c u m : Int) (w : World) : (Instr.field 23 (.agg #[.int .i64 h, .int .i64 l, .int .i64 c, .int .i64 u, .int .i64 m]) 2).run Try.prog w = .ok (.int .i64 c) w := by kernel_rfl
theorem fld3 (h l c u m : Int) (w : World) : (Instr.field 23 (.agg #[.int .i64 h, .int .i64 l, .int .i64 c, .int .i64 u, .int .i64 m]) 3).run Try.prog w = .ok (.int .i64 u) w := by kernel_rfl
theorem fld4 (h l c u m : Int) (w : World) : (Instr.field 23 (.agg #[.int .i64 h, .int .i64 l, .int .i64 c, .int .i64 u, .int .i64 m]) 4).run Try.prog w = .ok (.int .i64 m) w := by kernel_rfl
theorem bst {w W W' : World} (h : Below w.heap.size w W) (h' : Below W.heap.size W W') : Below w.heap.size w W' := h.trans (h'.mono h.size)
theorem awake_any (w : World) :
    Calls Try.prog 12 #[] w fun e w' => e = .returned (.bool true) ∧ Below w.heap.size w w' := by
  have f0 := fld0
  have f3 := fld3
  have hB := Below.refl w.heap.size w
  go_enter Try.func12, Try.ntmps12
  go_wp2_with (first
    | (go_at_call 7; ((with_reducible refine (clamp_to 0 5 1000000 0 0 1 0 100000 0 0 (by decide) _).mono ?_); rintro e W1 ⟨rfl, h⟩; replace hB := bst hB h; clear h))
    | (go_at_call 10; ((with_reducible refine (off_any _).mono ?_); rintro e W2 ⟨rfl, h⟩; replace hB := bst hB h; clear h))
    | (go_at_call 9; ((with_reducible refine (may_yes _ _ _ _ _ (by decide) _).mono ?_); rintro e W5 ⟨rfl, h⟩; replace hB := bst hB h; clear h))
    | (go_at_call 11; ((with_reducible refine (eager_any _).mono ?_); rintro e W3 ⟨rfl, h⟩; replace hB := bst hB h; clear h)))
  go_ret
  exact ⟨rfl, hB⟩
end Go.Proofs.Ytndlnekibfcjnaa
