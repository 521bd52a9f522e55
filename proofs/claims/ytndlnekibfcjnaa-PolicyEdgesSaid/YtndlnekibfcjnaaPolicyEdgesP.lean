/- PolicyEdges (P11.1): for each of the five numbers and each of its two bounds: the policy at the bound may be, the one that lies one beyond it may not, and Clamp brings this one back to the bound. No condition on the two parameters. -/
import Derived.Test.YtndlnekibfcjnaaRows
import Derived.Test.YtndlnekibfcjnaaPoE
import Derived.Deep.RegionHeld3
import Derived.LoopTactic
import Derived.WalkKit
import Derived.ProofKit
import Derived.OpenShut
import Derived.ChangeOld
import Derived.Below
namespace Go.Proofs.Ytndlnekibfcjnaa.policyEdges
open Go.ChangeShapes Go.WideShapes Go.ChangeAt Go.RowKit
set_option linter.all false

theorem own : ownKnob Try.prog.godebug = none := by kernel_rfl
theorem laidOut : laidOutB Try.prog = true := by kernel_rfl

theorem wu (a : Int) : IntKind.u64.wrap a = a % 18446744073709551616 := by first | rfl | simp [IntKind.wrap]
theorem five (a : Int) : (IntKind.u64.wrap a).tmod 5 = 0 ∨ (IntKind.u64.wrap a).tmod 5 = 1 ∨ (IntKind.u64.wrap a).tmod 5 = 2 ∨ (IntKind.u64.wrap a).tmod 5 = 3 ∨ (IntKind.u64.wrap a).tmod 5 = 4 := by
  have h0 : 0 ≤ a % 18446744073709551616 := Int.emod_nonneg _ (by decide)
  rw [wu, Int.tmod_eq_emod_of_nonneg h0]
  omega
section
variable {w W W' W1 : World} {b : Nat} {h0 l0 c0 u0 m0 h1 l1 c1 u1 m1 : Int} {t : TypeId}
theorem ed_of (H0 : Pl W b h0 l0 c0 u0 m0) (H1 : Pl W (b + 1) h1 l1 c1 u1 m1) (hB : Below w.heap.size w W) : W.cell? ⟨b, 0, none⟩ = some (.int .i64 h0) ∧ W.cell? ⟨b, 1, none⟩ = some (.int .i64 l0) ∧ W.cell? ⟨b, 2, none⟩ = some (.int .i64 c0) ∧ W.cell? ⟨b, 3, none⟩ = some (.int .i64 u0) ∧ W.cell? ⟨b, 4, none⟩ = some (.int .i64 m0) ∧ W.cell? ⟨b + 1, 0, none⟩ = some (.int .i64 h1) ∧ W.cell? ⟨b + 1, 1, none⟩ = some (.int .i64 l1) ∧ W.cell? ⟨b + 1, 2, none⟩ = some (.int .i64 c1) ∧ W.cell? ⟨b + 1, 3, none⟩ = some (.int .i64 u1) ∧ W.cell? ⟨b + 1, 4, none⟩ = some (.int .i64 m1) ∧ Below w.heap.size w W := ⟨H0.1, H0.2.1, H0.2.2.1, H0.2.2.2.1, H0.2.2.2.2, H1.1, H1.2.1, H1.2.2.1, H1.2.2.2.1, H1.2.2.2.2, hB⟩
theorem ed_keep (H : W.cell? ⟨b, 0, none⟩ = some (.int .i64 h0) ∧ W.cell? ⟨b, 1, none⟩ = some (.int .i64 l0) ∧ W.cell? ⟨b, 2, none⟩ = some (.int .i64 c0) ∧ W.cell? ⟨b, 3, none⟩ = some (.int .i64 u0) ∧ W.cell? ⟨b, 4, none⟩ = some (.int .i64 m0) ∧ W.cell? ⟨b + 1, 0, none⟩ = some (.int .i64 h1) ∧ W.cell? ⟨b + 1, 1, none⟩ = some (.int .i64 l1) ∧ W.cell? ⟨b + 1, 2, none⟩ = some (.int .i64 c1) ∧ W.cell? ⟨b + 1, 3, none⟩ = some (.int .i64 u1) ∧ W.cell? ⟨b + 1, 4, none⟩ = some (.int .i64 m1) ∧ Below w.heap.size w W) (hb : Below W.heap.size W W') : W'.cell? ⟨b, 0, none⟩ = some (.int .i64 h0) ∧ W'.cell? ⟨b, 1, none⟩ = some (.int .i64 l0) ∧ W'.cell? ⟨b, 2, none⟩ = some (.int .i64 c0) ∧ W'.cell? ⟨b, 3, none⟩ = some (.int .i64 u0) ∧ W'.cell? ⟨b, 4, none⟩ = some (.int .i64 m0) ∧ W'.cell? ⟨b + 1, 0, none⟩ = some (.int .i64 h1) ∧ W'.cell? ⟨b + 1, 1, none⟩ = some (.int .i64 l1) ∧ W'.cell? ⟨b + 1, 2, none⟩ = some (.int .i64 c1) ∧ W'.cell? ⟨b + 1, 3, none⟩ = some (.int .i64 u1) ∧ W'.cell? ⟨b + 1, 4, none⟩ = some (.int .i64 m1) ∧ Below w.heap.size w W' := by
  obtain ⟨a0, a1, a2, a3, a4, b0, b1, b2, b3, b4, hB⟩ := H
  exact ed_of (Pl.keep ⟨a0, a1, a2, a3, a4⟩ hb) (Pl.keep ⟨b0, b1, b2, b3, b4⟩ hb) (bst hB hb)
theorem ed_below (H : W.cell? ⟨b, 0, none⟩ = some (.int .i64 h0) ∧ W.cell? ⟨b, 1, none⟩ = some (.int .i64 l0) ∧ W.cell? ⟨b, 2, none⟩ = some (.int .i64 c0) ∧ W.cell? ⟨b, 3, none⟩ = some (.int .i64 u0) ∧ W.cell? ⟨b, 4, none⟩ = some (.int .i64 m0) ∧ W.cell? ⟨b + 1, 0, none⟩ = some (.int .i64 h1) ∧ W.cell? ⟨b + 1, 1, none⟩ = some (.int .i64 l1) ∧ W.cell? ⟨b + 1, 2, none⟩ = some (.int .i64 c1) ∧ W.cell? ⟨b + 1, 3, none⟩ = some (.int .i64 u1) ∧ W.cell? ⟨b + 1, 4, none⟩ = some (.int .i64 m1) ∧ Below w.heap.size w W) : Below w.heap.size w W := H.2.2.2.2.2.2.2.2.2.2
theorem ed_new (hb1 : Below w.heap.size w W1) (W : World) (hW : W = ((W1.alloc (.cells #[.int .i64 h0, .int .i64 l0, .int .i64 c0, .int .i64 u0, .int .i64 m0] t)).alloc (.cells #[.int .i64 h1, .int .i64 l1, .int .i64 c1, .int .i64 u1, .int .i64 m1] t)).drew) : W.cell? ⟨W1.heap.size, 0, none⟩ = some (.int .i64 h0) ∧ W.cell? ⟨W1.heap.size, 1, none⟩ = some (.int .i64 l0) ∧ W.cell? ⟨W1.heap.size, 2, none⟩ = some (.int .i64 c0) ∧ W.cell? ⟨W1.heap.size, 3, none⟩ = some (.int .i64 u0) ∧ W.cell? ⟨W1.heap.size, 4, none⟩ = some (.int .i64 m0) ∧ W.cell? ⟨W1.heap.size + 1, 0, none⟩ = some (.int .i64 h1) ∧ W.cell? ⟨W1.heap.size + 1, 1, none⟩ = some (.int .i64 l1) ∧ W.cell? ⟨W1.heap.size + 1, 2, none⟩ = some (.int .i64 c1) ∧ W.cell? ⟨W1.heap.size + 1, 3, none⟩ = some (.int .i64 u1) ∧ W.cell? ⟨W1.heap.size + 1, 4, none⟩ = some (.int .i64 m1) ∧ Below w.heap.size w W := by
  subst hW
  have d : ∀ X : World, Below X.heap.size X X.drew := fun X => (Below.refl _ _).drew
  have H1 := Pl.new (W1.alloc (.cells #[.int .i64 h0, .int .i64 l0, .int .i64 c0, .int .i64 u0, .int .i64 m0] t)) t (h := h1) (l := l1) (c := c1) (u := u1) (m := m1)
  rw [World.size_alloc] at H1
  exact ed_of (((Pl.new W1 t).past _).keep (d _)) (H1.keep (d _)) (bst (bst (bst hb1 ((Below.refl _ _).alloc (Nat.le_refl _) _)) ((Below.refl _ _).alloc (Nat.le_refl _) _)) (d _))
end

set_option maxRecDepth 100000 in
set_option maxHeartbeats 12800000 in
theorem walk (a0 : Int) (b1 : Bool) (w : World) (w0 : (Lit.int .i64 a0).wf = true) :
    Calls Try.prog 6 #[.int .i64 a0, .bool b1] w fun e w' => e = .returned (.bool true) ∧ Below w.heap.size w w' := by
  rcases five a0 with hK | hK | hK | hK | hK
  · cases b1
    · go_enter Try.func6, Try.ntmps6
      go_wp2_with (go_at_call 10; ((with_reducible refine (off_any _).mono ?_); rintro e W1 ⟨rfl, hb1⟩))
      go_region_held3 (fun W => W.cell? ⟨W1.heap.size, 0, none⟩ = some (.int .i64 1) ∧ W.cell? ⟨W1.heap.size, 1, none⟩ = some (.int .i64 (-100000)) ∧ W.cell? ⟨W1.heap.size, 2, none⟩ = some (.int .i64 0) ∧ W.cell? ⟨W1.heap.size, 3, none⟩ = some (.int .i64 0) ∧ W.cell? ⟨W1.heap.size, 4, none⟩ = some (.int .i64 0) ∧ W.cell? ⟨W1.heap.size + 1, 0, none⟩ = some (.int .i64 0) ∧ W.cell? ⟨W1.heap.size + 1, 1, none⟩ = some (.int .i64 (-100000)) ∧ W.cell? ⟨W1.heap.size + 1, 2, none⟩ = some (.int .i64 0) ∧ W.cell? ⟨W1.heap.size + 1, 3, none⟩ = some (.int .i64 0) ∧ W.cell? ⟨W1.heap.size + 1, 4, none⟩ = some (.int .i64 0) ∧ Below w.heap.size w W)
        (first | exact ed_new hb1 _ rfl | exact ed_keep (by assumption) hb | go_keep)
        (first
          | (go_at_call 9; (first | (with_reducible refine (may_yes _ _ _ _ _ (by decide) _).mono ?_) | (with_reducible refine (may_not _ _ _ _ _ (by decide) _).mono ?_)); rintro e w3 ⟨rfl, hb⟩)
          | (go_at_call 7; ((with_reducible refine (clamp_to _ _ _ _ _ 1 (-100000) 0 0 0 (by decide) _).mono ?_); rintro e w3 ⟨rfl, hb⟩))
          | (go_at_call 12; ((with_reducible refine (awake_any _).mono ?_); rintro e w3 ⟨rfl, hb⟩)))
      all_goals
        have h9 := ed_below (by assumption)
        go_wp2_with (fail)
        go_ret
        exact ⟨rfl, h9⟩
    · go_enter Try.func6, Try.ntmps6
      go_wp2_with (go_at_call 10; ((with_reducible refine (off_any _).mono ?_); rintro e W1 ⟨rfl, hb1⟩))
      go_region_held3 (fun W => W.cell? ⟨W1.heap.size, 0, none⟩ = some (.int .i64 100000) ∧ W.cell? ⟨W1.heap.size, 1, none⟩ = some (.int .i64 (-100000)) ∧ W.cell? ⟨W1.heap.size, 2, none⟩ = some (.int .i64 0) ∧ W.cell? ⟨W1.heap.size, 3, none⟩ = some (.int .i64 0) ∧ W.cell? ⟨W1.heap.size, 4, none⟩ = some (.int .i64 0) ∧ W.cell? ⟨W1.heap.size + 1, 0, none⟩ = some (.int .i64 100001) ∧ W.cell? ⟨W1.heap.size + 1, 1, none⟩ = some (.int .i64 (-100000)) ∧ W.cell? ⟨W1.heap.size + 1, 2, none⟩ = some (.int .i64 0) ∧ W.cell? ⟨W1.heap.size + 1, 3, none⟩ = some (.int .i64 0) ∧ W.cell? ⟨W1.heap.size + 1, 4, none⟩ = some (.int .i64 0) ∧ Below w.heap.size w W)
        (first | exact ed_new hb1 _ rfl | exact ed_keep (by assumption) hb | go_keep)
        (first
          | (go_at_call 9; (first | (with_reducible refine (may_yes _ _ _ _ _ (by decide) _).mono ?_) | (with_reducible refine (may_not _ _ _ _ _ (by decide) _).mono ?_)); rintro e w3 ⟨rfl, hb⟩)
          | (go_at_call 7; ((with_reducible refine (clamp_to _ _ _ _ _ 100000 (-100000) 0 0 0 (by decide) _).mono ?_); rintro e w3 ⟨rfl, hb⟩))
          | (go_at_call 12; ((with_reducible refine (awake_any _).mono ?_); rintro e w3 ⟨rfl, hb⟩)))
      all_goals
        have h9 := ed_below (by assumption)
        go_wp2_with (fail)
        go_ret
        exact ⟨rfl, h9⟩
  · cases b1
    · go_enter Try.func6, Try.ntmps6
      go_wp2_with (go_at_call 10; ((with_reducible refine (off_any _).mono ?_); rintro e W1 ⟨rfl, hb1⟩))
      go_region_held3 (fun W => W.cell? ⟨W1.heap.size, 0, none⟩ = some (.int .i64 100000) ∧ W.cell? ⟨W1.heap.size, 1, none⟩ = some (.int .i64 (-100000)) ∧ W.cell? ⟨W1.heap.size, 2, none⟩ = some (.int .i64 0) ∧ W.cell? ⟨W1.heap.size, 3, none⟩ = some (.int .i64 0) ∧ W.cell? ⟨W1.heap.size, 4, none⟩ = some (.int .i64 0) ∧ W.cell? ⟨W1.heap.size + 1, 0, none⟩ = some (.int .i64 100000) ∧ W.cell? ⟨W1.heap.size + 1, 1, none⟩ = some (.int .i64 (-100001)) ∧ W.cell? ⟨W1.heap.size + 1, 2, none⟩ = some (.int .i64 0) ∧ W.cell? ⟨W1.heap.size + 1, 3, none⟩ = some (.int .i64 0) ∧ W.cell? ⟨W1.heap.size + 1, 4, none⟩ = some (.int .i64 0) ∧ Below w.heap.size w W)
        (first | exact ed_new hb1 _ rfl | exact ed_keep (by assumption) hb | go_keep)
        (first
          | (go_at_call 9; (first | (with_reducible refine (may_yes _ _ _ _ _ (by decide) _).mono ?_) | (with_reducible refine (may_not _ _ _ _ _ (by decide) _).mono ?_)); rintro e w3 ⟨rfl, hb⟩)
          | (go_at_call 7; ((with_reducible refine (clamp_to _ _ _ _ _ 100000 (-100000) 0 0 0 (by decide) _).mono ?_); rintro e w3 ⟨rfl, hb⟩))
          | (go_at_call 12; ((with_reducible refine (awake_any _).mono ?_); rintro e w3 ⟨rfl, hb⟩)))
      all_goals
        have h9 := ed_below (by assumption)
        go_wp2_with (fail)
        go_ret
        exact ⟨rfl, h9⟩
    · go_enter Try.func6, Try.ntmps6
      go_wp2_with (go_at_call 10; ((with_reducible refine (off_any _).mono ?_); rintro e W1 ⟨rfl, hb1⟩))
      go_region_held3 (fun W => W.cell? ⟨W1.heap.size, 0, none⟩ = some (.int .i64 100000) ∧ W.cell? ⟨W1.heap.size, 1, none⟩ = some (.int .i64 0) ∧ W.cell? ⟨W1.heap.size, 2, none⟩ = some (.int .i64 0) ∧ W.cell? ⟨W1.heap.size, 3, none⟩ = some (.int .i64 0) ∧ W.cell? ⟨W1.heap.size, 4, none⟩ = some (.int .i64 0) ∧ W.cell? ⟨W1.heap.size + 1, 0, none⟩ = some (.int .i64 100000) ∧ W.cell? ⟨W1.heap.size + 1, 1, none⟩ = some (.int .i64 1) ∧ W.cell? ⟨W1.heap.size + 1, 2, none⟩ = some (.int .i64 0) ∧ W.cell? ⟨W1.heap.size + 1, 3, none⟩ = some (.int .i64 0) ∧ W.cell? ⟨W1.heap.size + 1, 4, none⟩ = some (.int .i64 0) ∧ Below w.heap.size w W)
        (first | exact ed_new hb1 _ rfl | exact ed_keep (by assumption) hb | go_keep)
        (first
          | (go_at_call 9; (first | (with_reducible refine (may_yes _ _ _ _ _ (by decide) _).mono ?_) | (with_reducible refine (may_not _ _ _ _ _ (by decide) _).mono ?_)); rintro e w3 ⟨rfl, hb⟩)
          | (go_at_call 7; ((with_reducible refine (clamp_to _ _ _ _ _ 100000 0 0 0 0 (by decide) _).mono ?_); rintro e w3 ⟨rfl, hb⟩))
          | (go_at_call 12; ((with_reducible refine (awake_any _).mono ?_); rintro e w3 ⟨rfl, hb⟩)))
      all_goals
        have h9 := ed_below (by assumption)
        go_wp2_with (fail)
        go_ret
        exact ⟨rfl, h9⟩
  · cases b1
    · go_enter Try.func6, Try.ntmps6
      go_wp2_with (go_at_call 10; ((with_reducible refine (off_any _).mono ?_); rintro e W1 ⟨rfl, hb1⟩))
      go_region_held3 (fun W => W.cell? ⟨W1.heap.size, 0, none⟩ = some (.int .i64 100000) ∧ W.cell? ⟨W1.heap.size, 1, none⟩ = some (.int .i64 (-100000)) ∧ W.cell? ⟨W1.heap.size, 2, none⟩ = some (.int .i64 (-100000)) ∧ W.cell? ⟨W1.heap.size, 3, none⟩ = some (.int .i64 0) ∧ W.cell? ⟨W1.heap.size, 4, none⟩ = some (.int .i64 0) ∧ W.cell? ⟨W1.heap.size + 1, 0, none⟩ = some (.int .i64 100000) ∧ W.cell? ⟨W1.heap.size + 1, 1, none⟩ = some (.int .i64 (-100000)) ∧ W.cell? ⟨W1.heap.size + 1, 2, none⟩ = some (.int .i64 (-100001)) ∧ W.cell? ⟨W1.heap.size + 1, 3, none⟩ = some (.int .i64 0) ∧ W.cell? ⟨W1.heap.size + 1, 4, none⟩ = some (.int .i64 0) ∧ Below w.heap.size w W)
        (first | exact ed_new hb1 _ rfl | exact ed_keep (by assumption) hb | go_keep)
        (first
          | (go_at_call 9; (first | (with_reducible refine (may_yes _ _ _ _ _ (by decide) _).mono ?_) | (with_reducible refine (may_not _ _ _ _ _ (by decide) _).mono ?_)); rintro e w3 ⟨rfl, hb⟩)
          | (go_at_call 7; ((with_reducible refine (clamp_to _ _ _ _ _ 100000 (-100000) (-100000) 0 0 (by decide) _).mono ?_); rintro e w3 ⟨rfl, hb⟩))
          | (go_at_call 12; ((with_reducible refine (awake_any _).mono ?_); rintro e w3 ⟨rfl, hb⟩)))
      all_goals
        have h9 := ed_below (by assumption)
        go_wp2_with (fail)
        go_ret
        exact ⟨rfl, h9⟩
    · go_enter Try.func6, Try.ntmps6
      go_wp2_with (go_at_call 10; ((with_reducible refine (off_any _).mono ?_); rintro e W1 ⟨rfl, hb1⟩))
      go_region_held3 (fun W => W.cell? ⟨W1.heap.size, 0, none⟩ = some (.int .i64 100000) ∧ W.cell? ⟨W1.heap.size, 1, none⟩ = some (.int .i64 (-100000)) ∧ W.cell? ⟨W1.heap.size, 2, none⟩ = some (.int .i64 100000) ∧ W.cell? ⟨W1.heap.size, 3, none⟩ = some (.int .i64 0) ∧ W.cell? ⟨W1.heap.size, 4, none⟩ = some (.int .i64 0) ∧ W.cell? ⟨W1.heap.size + 1, 0, none⟩ = some (.int .i64 100000) ∧ W.cell? ⟨W1.heap.size + 1, 1, none⟩ = some (.int .i64 (-100000)) ∧ W.cell? ⟨W1.heap.size + 1, 2, none⟩ = some (.int .i64 100001) ∧ W.cell? ⟨W1.heap.size + 1, 3, none⟩ = some (.int .i64 0) ∧ W.cell? ⟨W1.heap.size + 1, 4, none⟩ = some (.int .i64 0) ∧ Below w.heap.size w W)
        (first | exact ed_new hb1 _ rfl | exact ed_keep (by assumption) hb | go_keep)
        (first
          | (go_at_call 9; (first | (with_reducible refine (may_yes _ _ _ _ _ (by decide) _).mono ?_) | (with_reducible refine (may_not _ _ _ _ _ (by decide) _).mono ?_)); rintro e w3 ⟨rfl, hb⟩)
          | (go_at_call 7; ((with_reducible refine (clamp_to _ _ _ _ _ 100000 (-100000) 100000 0 0 (by decide) _).mono ?_); rintro e w3 ⟨rfl, hb⟩))
          | (go_at_call 12; ((with_reducible refine (awake_any _).mono ?_); rintro e w3 ⟨rfl, hb⟩)))
      all_goals
        have h9 := ed_below (by assumption)
        go_wp2_with (fail)
        go_ret
        exact ⟨rfl, h9⟩
  · cases b1
    · go_enter Try.func6, Try.ntmps6
      go_wp2_with (go_at_call 10; ((with_reducible refine (off_any _).mono ?_); rintro e W1 ⟨rfl, hb1⟩))
      go_region_held3 (fun W => W.cell? ⟨W1.heap.size, 0, none⟩ = some (.int .i64 100000) ∧ W.cell? ⟨W1.heap.size, 1, none⟩ = some (.int .i64 (-100000)) ∧ W.cell? ⟨W1.heap.size, 2, none⟩ = some (.int .i64 0) ∧ W.cell? ⟨W1.heap.size, 3, none⟩ = some (.int .i64 (-100000)) ∧ W.cell? ⟨W1.heap.size, 4, none⟩ = some (.int .i64 0) ∧ W.cell? ⟨W1.heap.size + 1, 0, none⟩ = some (.int .i64 100000) ∧ W.cell? ⟨W1.heap.size + 1, 1, none⟩ = some (.int .i64 (-100000)) ∧ W.cell? ⟨W1.heap.size + 1, 2, none⟩ = some (.int .i64 0) ∧ W.cell? ⟨W1.heap.size + 1, 3, none⟩ = some (.int .i64 (-100001)) ∧ W.cell? ⟨W1.heap.size + 1, 4, none⟩ = some (.int .i64 0) ∧ Below w.heap.size w W)
        (first | exact ed_new hb1 _ rfl | exact ed_keep (by assumption) hb | go_keep)
        (first
          | (go_at_call 9; (first | (with_reducible refine (may_yes _ _ _ _ _ (by decide) _).mono ?_) | (with_reducible refine (may_not _ _ _ _ _ (by decide) _).mono ?_)); rintro e w3 ⟨rfl, hb⟩)
          | (go_at_call 7; ((with_reducible refine (clamp_to _ _ _ _ _ 100000 (-100000) 0 (-100000) 0 (by decide) _).mono ?_); rintro e w3 ⟨rfl, hb⟩))
          | (go_at_call 12; ((with_reducible refine (awake_any _).mono ?_); rintro e w3 ⟨rfl, hb⟩)))
      all_goals
        have h9 := ed_below (by assumption)
        go_wp2_with (fail)
        go_ret
        exact ⟨rfl, h9⟩
    · go_enter Try.func6, Try.ntmps6
      go_wp2_with (go_at_call 10; ((with_reducible refine (off_any _).mono ?_); rintro e W1 ⟨rfl, hb1⟩))
      go_region_held3 (fun W => W.cell? ⟨W1.heap.size, 0, none⟩ = some (.int .i64 100000) ∧ W.cell? ⟨W1.heap.size, 1, none⟩ = some (.int .i64 (-100000)) ∧ W.cell? ⟨W1.heap.size, 2, none⟩ = some (.int .i64 0) ∧ W.cell? ⟨W1.heap.size, 3, none⟩ = some (.int .i64 100000) ∧ W.cell? ⟨W1.heap.size, 4, none⟩ = some (.int .i64 0) ∧ W.cell? ⟨W1.heap.size + 1, 0, none⟩ = some (.int .i64 100000) ∧ W.cell? ⟨W1.heap.size + 1, 1, none⟩ = some (.int .i64 (-100000)) ∧ W.cell? ⟨W1.heap.size + 1, 2, none⟩ = some (.int .i64 0) ∧ W.cell? ⟨W1.heap.size + 1, 3, none⟩ = some (.int .i64 100001) ∧ W.cell? ⟨W1.heap.size + 1, 4, none⟩ = some (.int .i64 0) ∧ Below w.heap.size w W)
        (first | exact ed_new hb1 _ rfl | exact ed_keep (by assumption) hb | go_keep)
        (first
          | (go_at_call 9; (first | (with_reducible refine (may_yes _ _ _ _ _ (by decide) _).mono ?_) | (with_reducible refine (may_not _ _ _ _ _ (by decide) _).mono ?_)); rintro e w3 ⟨rfl, hb⟩)
          | (go_at_call 7; ((with_reducible refine (clamp_to _ _ _ _ _ 100000 (-100000) 0 100000 0 (by decide) _).mono ?_); rintro e w3 ⟨rfl, hb⟩))
          | (go_at_call 12; ((with_reducible refine (awake_any _).mono ?_); rintro e w3 ⟨rfl, hb⟩)))
      all_goals
        have h9 := ed_below (by assumption)
        go_wp2_with (fail)
        go_ret
        exact ⟨rfl, h9⟩
  · cases b1
    · go_enter Try.func6, Try.ntmps6
      go_wp2_with (go_at_call 10; ((with_reducible refine (off_any _).mono ?_); rintro e W1 ⟨rfl, hb1⟩))
      go_region_held3 (fun W => W.cell? ⟨W1.heap.size, 0, none⟩ = some (.int .i64 100000) ∧ W.cell? ⟨W1.heap.size, 1, none⟩ = some (.int .i64 (-100000)) ∧ W.cell? ⟨W1.heap.size, 2, none⟩ = some (.int .i64 0) ∧ W.cell? ⟨W1.heap.size, 3, none⟩ = some (.int .i64 0) ∧ W.cell? ⟨W1.heap.size, 4, none⟩ = some (.int .i64 (-100000)) ∧ W.cell? ⟨W1.heap.size + 1, 0, none⟩ = some (.int .i64 100000) ∧ W.cell? ⟨W1.heap.size + 1, 1, none⟩ = some (.int .i64 (-100000)) ∧ W.cell? ⟨W1.heap.size + 1, 2, none⟩ = some (.int .i64 0) ∧ W.cell? ⟨W1.heap.size + 1, 3, none⟩ = some (.int .i64 0) ∧ W.cell? ⟨W1.heap.size + 1, 4, none⟩ = some (.int .i64 (-100001)) ∧ Below w.heap.size w W)
        (first | exact ed_new hb1 _ rfl | exact ed_keep (by assumption) hb | go_keep)
        (first
          | (go_at_call 9; (first | (with_reducible refine (may_yes _ _ _ _ _ (by decide) _).mono ?_) | (with_reducible refine (may_not _ _ _ _ _ (by decide) _).mono ?_)); rintro e w3 ⟨rfl, hb⟩)
          | (go_at_call 7; ((with_reducible refine (clamp_to _ _ _ _ _ 100000 (-100000) 0 0 (-100000) (by decide) _).mono ?_); rintro e w3 ⟨rfl, hb⟩))
          | (go_at_call 12; ((with_reducible refine (awake_any _).mono ?_); rintro e w3 ⟨rfl, hb⟩)))
      all_goals
        have h9 := ed_below (by assumption)
        go_wp2_with (fail)
        go_ret
        exact ⟨rfl, h9⟩
    · go_enter Try.func6, Try.ntmps6
      go_wp2_with (go_at_call 10; ((with_reducible refine (off_any _).mono ?_); rintro e W1 ⟨rfl, hb1⟩))
      go_region_held3 (fun W => W.cell? ⟨W1.heap.size, 0, none⟩ = some (.int .i64 100000) ∧ W.cell? ⟨W1.heap.size, 1, none⟩ = some (.int .i64 (-100000)) ∧ W.cell? ⟨W1.heap.size, 2, none⟩ = some (.int .i64 0) ∧ W.cell? ⟨W1.heap.size, 3, none⟩ = some (.int .i64 0) ∧ W.cell? ⟨W1.heap.size, 4, none⟩ = some (.int .i64 100000) ∧ W.cell? ⟨W1.heap.size + 1, 0, none⟩ = some (.int .i64 100000) ∧ W.cell? ⟨W1.heap.size + 1, 1, none⟩ = some (.int .i64 (-100000)) ∧ W.cell? ⟨W1.heap.size + 1, 2, none⟩ = some (.int .i64 0) ∧ W.cell? ⟨W1.heap.size + 1, 3, none⟩ = some (.int .i64 0) ∧ W.cell? ⟨W1.heap.size + 1, 4, none⟩ = some (.int .i64 100001) ∧ Below w.heap.size w W)
        (first | exact ed_new hb1 _ rfl | exact ed_keep (by assumption) hb | go_keep)
        (first
          | (go_at_call 9; (first | (with_reducible refine (may_yes _ _ _ _ _ (by decide) _).mono ?_) | (with_reducible refine (may_not _ _ _ _ _ (by decide) _).mono ?_)); rintro e w3 ⟨rfl, hb⟩)
          | (go_at_call 7; ((with_reducible refine (clamp_to _ _ _ _ _ 100000 (-100000) 0 0 100000 (by decide) _).mono ?_); rintro e w3 ⟨rfl, hb⟩))
          | (go_at_call 12; ((with_reducible refine (awake_any _).mono ?_); rintro e w3 ⟨rfl, hb⟩)))
      all_goals
        have h9 := ed_below (by assumption)
        go_wp2_with (fail)
        go_ret
        exact ⟨rfl, h9⟩

set_option maxRecDepth 100000 in
theorem lifted (os : Os) (started : os.Started) (H : Type) (enc : TypeId × Value → H) :
    ReturnsInHanded {} Try.checked os 6 .any (Rows.policyEdgesSpec.pre6 enc Try.prog Try.f6 Rows.policyEdgesRow.domain false) (Rows.policyEdgesSpec.post enc Try.prog Try.f6 false true false false) := by
  refine returnsInHanded_of_change (C := Try.checked) own started (by kernel_rfl) Try.func6
    (ChangeSpec.witness6 (enc := enc) (C := Try.checked) false ⟨#[], #[.int .i64 0, .bool false], []⟩ 8 (by kernel_rfl) (by kernel_rfl) (by kernel_rfl) (by kernel_rfl)) ?_
  intro W base args ds gs before hval0 hW hcnd _
  have hval : ∀ (j : Nat) t v, Try.f6.params[j]? = some t → args[j]? = some v → Value.okWide Try.prog W .any base t v := hval0
  have hW' := hW
  obtain ⟨p, q, hA0, hV, rfl, hfz, hnd⟩ := hW
  have hA : DataW.TrodAll enc Try.prog W 0 (fun _ => true) true Try.f6.params.toList args.toList ds p := hA0
  rw [Try.params6] at hA hval
  obtain ⟨v0, vs0, d0, ds0, p0, q0, hargs, rfl, rfl, h0, r0⟩ := trodAll_cons hA
  obtain ⟨v1, vs1, d1, ds1, p1, q1, rfl, rfl, rfl, h1, r1⟩ := trodAll_cons r0
  obtain ⟨rfl, rfl, rfl⟩ := trodAll_nil r1
  obtain rfl : args = #[v0, v1] := by cases args; simp_all
  obtain ⟨rfl, rfl⟩ := trodVars_none hV
  have k0 := h0
  have lt0 : ∀ x ∈ p0, x.block < W.heap.size := by obtain ⟨m, hm⟩ := k0; exact DataW.trod_lt m _ _ _ hm
  obtain ⟨a0, rfl, rfl, rfl, w0⟩ := open_int Try.underlying3 (hval 0 3 v0 rfl rfl) h0
  have k1 := h1
  have lt1 : ∀ x ∈ p1, x.block < W.heap.size := by obtain ⟨m, hm⟩ := k1; exact DataW.trod_lt m _ _ _ hm
  obtain ⟨b1, rfl, rfl, rfl⟩ := open_bool Try.underlying4 (hval 1 4 v1 rfl rfl) h1
  clear hA0 hval0
  refine (walk a0 b1 W w0).mono fun e W' ⟨he, bel⟩ => ?_
  subst he
  exact ⟨_, rfl, _, _, _, [], _, [], hW', trodAll_mk1 (shut_bool Try.underlying4 _), (trodAll_cons_mk (Below.trod laidOut (by kernel_rfl) (of_decide_eq_true (by kernel_rfl)) k0 bel lt0) (trodAll_cons_mk (Below.trod laidOut (by kernel_rfl) (of_decide_eq_true (by kernel_rfl)) k1 bel lt1) trodAll_mk0)), rfl, bel.frame _, fun h => by cases h⟩

theorem over : Rows.policyEdgesRow.holds Try.pinned (OpenSpec.ofChange Rows.policyEdgesSpec) :=
  OpenClaim.holds_of_wide 6 Try.f6 rfl rfl rfl rfl rfl rfl rfl ⟨rfl, rfl, rfl, rfl, rfl⟩ rfl rfl rfl rfl rfl (by kernel_rfl) Try.func6 (by kernel_rfl)
    (of_decide_eq_true (by kernel_rfl)) (by unfold Func.isWrapper; first | (rw [if_pos (by decide +kernel)]; kernel_rfl) | (rw [if_neg (by decide +kernel)]; exact ⟨rfl, rfl⟩))
    (fun os started H enc _ => lifted os started H enc)

theorem policyEdgesHolds : Rows.PolicyEdgesSaid := over
#print axioms policyEdgesHolds
end Go.Proofs.Ytndlnekibfcjnaa.policyEdges
