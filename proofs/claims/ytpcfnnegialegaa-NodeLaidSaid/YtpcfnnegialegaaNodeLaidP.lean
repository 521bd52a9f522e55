/- 'osierlaw3.NodeLaid' returns true for every slice of pairs. No condition. -/
import Derived.Test.YtpcfnnegialegaaRows
import Derived.Test.YtpcfnnegialegaaNSays
import Derived.LoopTactic
import Derived.WalkKit
import Derived.ProofKit
import Derived.OpenShut
import Derived.ChangeOld
import Derived.Below
namespace Go.Proofs.Ytpcfnnegialegaa.nodeLaid
open Go.ChangeShapes Go.WideShapes Go.ChangeAt Go.RowKit
set_option linter.all false

theorem own : ownKnob Try.prog.godebug = none := by kernel_rfl
theorem laidOut : laidOutB Try.prog = true := by kernel_rfl



set_option maxRecDepth 100000 in
set_option maxHeartbeats 6400000 in
theorem walk (a0 : Option Addr) (cap0 : Nat) (z0 : List Pr) (w : World) (w0 : Prs w a0 cap0 z0) :
    Calls Try.prog 5 #[.slice a0 z0.length cap0] w fun e w' => e = .returned (.bool true) ∧ Below w.heap.size w w' := by
  have cp : Calls Try.prog 16 #[.slice a0 z0.length cap0, .int .i64 60] w (WithSays w 60) := pairs_any a0 cap0 z0 60 w w0 (by omega)
  have hc0 := w0.1
  have hc1 := w0.2.1
  clear w0
  unfold maxLen at hc1
  go_enter Try.func5, Try.ntmps5
  go_wp2_with (first
    | (go_at_call 16; ((with_reducible refine cp.mono ?_); clear cp; rintro e W2 ⟨ao, c, l, rfl, hl, hP, hb⟩; have hP1 := hP.1; have hP2 := hP.2.1; have HP := Lib.hid hP; clear hP; unfold maxLen at hP2))
    | (go_at_call 9; ((with_reducible refine (new_held (l.length : Int) (l.length : Int) W2 _ (Below.refl _ _) (by omega)).mono ?_); rintro e W3 ⟨p, rfl, h1⟩))
    | (go_at_call 17; ((with_reducible refine (laid_any W2 p _ _ _ ao c l _ [] (Nat.le_refl _) HP.out h1 Good.nil (by simp) (by omega)).mono ?_); rintro e W4 ⟨t, L', rfl, h4, n4, t4, g4⟩; have T4 := Lib.hid t4; rw [List.nil_append] at h4 T4; have n4' := n4; clear t4 g4 h1 n4))
    | (go_at_call 18; ((with_reducible refine (says_any p _ _ _ L' t l T4.out ao c _ (HP.out.below h4.b) h4.a (by omega)).mono ?_); rintro e W5 ⟨rfl, hb5⟩; have h5 := h4.below hb5; clear h4 hb5))
    | (go_at_call 19; ((with_reducible refine (used_held h5 (l.length : Int) (by rw [n4'])).mono ?_); rintro e W6 ⟨rfl, rfl⟩))
    | (go_at_call 10; ((with_reducible refine (nmake_held_full h5 0 0 0 0 0 0 0 0 (Hung.zero _) (Hung.zero _) (by rw [n4'])).mono ?_); rintro e W7 ⟨rfl, h7⟩; clear h5))
    | (go_at_call 8; ((with_reducible refine (awake_any _).mono ?_); rintro e W8 ⟨rfl, hb8⟩; have h8 := h7.below hb8; clear h7 hb8)))
  go_ret
  exact ⟨rfl, hb.trans (h8.b.mono hb.size)⟩

set_option maxRecDepth 100000 in
theorem lifted (os : Os) (started : os.Started) (H : Type) (enc : TypeId × Value → H) :
    ReturnsInHanded {} Try.checked os 5 .any (Rows.nodeLaidSpec.pre6 enc Try.prog Try.f5 Rows.nodeLaidRow.domain false) (Rows.nodeLaidSpec.post enc Try.prog Try.f5 false true false false) := by
  refine returnsInHanded_of_change (C := Try.checked) own started (by kernel_rfl) Try.func5
    (ChangeSpec.witness6 (enc := enc) (C := Try.checked) false ⟨#[], #[.slice none 0 0], []⟩ 8 (by kernel_rfl) (by kernel_rfl) (by kernel_rfl) (by kernel_rfl)) ?_
  intro W base args ds gs before hval0 hW hcnd _
  have hval : ∀ (j : Nat) t v, Try.f5.params[j]? = some t → args[j]? = some v → Value.okWide Try.prog W .any base t v := hval0
  have hW' := hW
  obtain ⟨p, q, hA0, hV, rfl, hfz, hnd⟩ := hW
  have hA : DataW.TrodAll enc Try.prog W 0 (fun _ => true) true Try.f5.params.toList args.toList ds p := hA0
  rw [Try.params5] at hA hval
  obtain ⟨v0, vs0, d0, ds0, p0, q0, hargs, rfl, rfl, h0, r0⟩ := trodAll_cons hA
  obtain ⟨rfl, rfl, rfl⟩ := trodAll_nil r0
  obtain rfl : args = #[v0] := by cases args; simp_all
  obtain ⟨rfl, rfl⟩ := trodVars_none hV
  have k0 := h0
  have lt0 : ∀ x ∈ p0, x.block < W.heap.size := by obtain ⟨m, hm⟩ := k0; exact DataW.trod_lt m _ _ _ hm
  obtain ⟨b0, l0, c0, rfl⟩ := okWide_slice Try.underlying46 (hval 0 46 v0 rfl rfl)
  obtain ⟨a0, cap0, z0, e0, w0⟩ := open_pairs (enc := enc) (w := W) (v := .slice b0 l0 c0) (fuel := h0.choose) (by simpa [Value.cells] using h0.choose_spec)
  rw [e0] at hval k0 h0 hW' hval0 hA0
  clear hA0 hval0
  rw [e0]; refine (walk a0 cap0 z0 W w0).mono fun e W' ⟨he, bel⟩ => ?_
  subst he
  exact ⟨_, rfl, _, _, _, [], _, [], hW', trodAll_mk1 (shut_bool Try.underlying4 _), (trodAll_cons_mk (Below.trod laidOut (by kernel_rfl) (of_decide_eq_true (by kernel_rfl)) k0 bel lt0) trodAll_mk0), rfl, bel.frame _, fun h => by cases h⟩

theorem over : Rows.nodeLaidRow.holds Try.pinned (OpenSpec.ofChange Rows.nodeLaidSpec) :=
  OpenClaim.holds_of_wide 5 Try.f5 rfl rfl rfl rfl rfl rfl rfl ⟨rfl, rfl, rfl, rfl, rfl⟩ rfl rfl rfl rfl rfl (by kernel_rfl) Try.func5 (by kernel_rfl)
    (of_decide_eq_true (by kernel_rfl)) (by unfold Func.isWrapper; first | (rw [if_pos (by decide +kernel)]; kernel_rfl) | (rw [if_neg (by decide +kernel)]; exact ⟨rfl, rfl⟩))
    (fun os started H enc _ => lifted os started H enc)

theorem nodeLaidHolds : Rows.NodeLaidSaid := over
#print axioms nodeLaidHolds
end Go.Proofs.Ytpcfnnegialegaa.nodeLaid
