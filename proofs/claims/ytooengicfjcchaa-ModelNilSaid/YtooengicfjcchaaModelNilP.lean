/- ModelNil (P16.1): a map that there isn't tells ErrArg to every operation, has no pairs, none of any length, no copy, and tells nothing to no operations. No condition. -/
import Derived.Test.YtooengicfjcchaaRows
import Derived.Test.YtooengicfjcchaaMdW
import Derived.LoopTactic
import Derived.WalkKit
import Derived.ProofKit
import Derived.OpenShut
import Derived.ChangeOld
import Derived.Below
namespace Go.Proofs.Ytooengicfjcchaa.modelNil
open Go.ChangeShapes Go.WideShapes Go.ChangeAt Go.RowKit
set_option linter.all false

theorem own : ownKnob Try.prog.godebug = none := by kernel_rfl
theorem laidOut : laidOutB Try.prog = true := by kernel_rfl



set_option maxRecDepth 100000 in
set_option maxHeartbeats 6400000 in
theorem walk (o0 : OpD) (w : World) (w0 : o0.wf) :
    Calls Try.prog 4 #[.agg #[.int .i64 o0.c, .int .i64 o0.k, .int .i64 o0.h, .int .i64 o0.v]] w fun e w' => e = .returned (.bool true) ∧ Below w.heap.size w w' := by
  obtain ⟨c, k, hi, v⟩ := o0
  dsimp only
  clear w0
  have ca := fun W => awake_any W
  have c1 := fun W => mdo_nil c k hi v W
  have f0 : ∀ (e : Value) (o k v n s : Value) (w : World), (Instr.field 36 (.agg #[e, o, k, v, n, s]) 0).run Try.prog w = .ok e w := fun e o k v n s w => by kernel_rfl
  have ba := Lib.hid (bel1 (Below.refl _ w) (.cells #[.int .i64 c, .int .i64 k, .int .i64 hi, .int .i64 v] 33))
  go_enter Try.func4, Try.ntmps4
  go_wp2_with (first
    | (go_at_call 14; ((with_reducible refine (c1 _).mono ?_); clear c1; rintro e w1 ⟨rfl, hb1⟩))
    | (go_at_call 13; ((with_reducible refine (mpairs_nil _).mono ?_); rintro e w2 ⟨rfl, rfl⟩))
    | (go_at_call 18; ((with_reducible refine (mlen_nil _).mono ?_); rintro e w3 ⟨rfl, rfl⟩))
    | (go_at_call 19; ((with_reducible refine (mcopy_nil _).mono ?_); rintro e w4 ⟨rfl, rfl⟩))
    | (go_at_call 15; ((with_reducible refine (mrun_nil _ _ _ _).mono ?_); rintro e w5 ⟨rfl, rfl⟩))
    | (go_at_call 9; ((with_reducible refine (ca _).mono ?_); clear ca; rintro e w6 ⟨rfl, hb6⟩)))

  go_ret
  exact ⟨rfl, bel2 (bel2 ba.out hb1) hb6⟩

set_option maxRecDepth 100000 in
theorem lifted (os : Os) (started : os.Started) (H : Type) (enc : TypeId × Value → H) :
    ReturnsInHanded {} Try.checked os 4 .any (Rows.modelNilSpec.pre6 enc Try.prog Try.f4 Rows.modelNilRow.domain false) (Rows.modelNilSpec.post enc Try.prog Try.f4 false true false false) := by
  refine returnsInHanded_of_change (C := Try.checked) own started (by kernel_rfl) Try.func4
    (ChangeSpec.witness6 (enc := enc) (C := Try.checked) false ⟨#[], #[.agg #[.int .i64 0, .int .i64 0, .int .i64 0, .int .i64 0]], []⟩ 8 (by kernel_rfl) (by kernel_rfl) (by kernel_rfl) (by kernel_rfl)) ?_
  intro W base args ds gs before hval0 hW hcnd _
  have hval : ∀ (j : Nat) t v, Try.f4.params[j]? = some t → args[j]? = some v → Value.okWide Try.prog W .any base t v := hval0
  have hW' := hW
  obtain ⟨p, q, hA0, hV, rfl, hfz, hnd⟩ := hW
  have hA : DataW.TrodAll enc Try.prog W 0 (fun _ => true) true Try.f4.params.toList args.toList ds p := hA0
  rw [Try.params4] at hA hval
  obtain ⟨v0, vs0, d0, ds0, p0, q0, hargs, rfl, rfl, h0, r0⟩ := trodAll_cons hA
  obtain ⟨rfl, rfl, rfl⟩ := trodAll_nil r0
  obtain rfl : args = #[v0] := by cases args; simp_all
  obtain ⟨rfl, rfl⟩ := trodVars_none hV
  have k0 := h0
  have lt0 : ∀ x ∈ p0, x.block < W.heap.size := by obtain ⟨m, hm⟩ := k0; exact DataW.trod_lt m _ _ _ hm
  obtain ⟨u0, rfl, _⟩ := okWide_struct Try.underlying33 (hval 0 33 v0 rfl rfl)
  obtain ⟨o0, e0, w0⟩ := fields_op (enc := enc) (w := W) (cs := u0.toList) (fuel := h0.choose) (by simpa [Value.cells] using h0.choose_spec)
  obtain rfl : u0 = #[.int .i64 o0.c, .int .i64 o0.k, .int .i64 o0.h, .int .i64 o0.v] := by cases u0; simp_all
  clear hA0 hval0
  refine (walk o0 W w0).mono fun e W' ⟨he, bel⟩ => ?_
  subst he
  exact ⟨_, rfl, _, _, _, [], _, [], hW', trodAll_mk1 (shut_bool Try.underlying4 _), (trodAll_cons_mk (Below.trod laidOut (by kernel_rfl) (of_decide_eq_true (by kernel_rfl)) k0 bel lt0) trodAll_mk0), rfl, bel.frame _, fun h => by cases h⟩

theorem over : Rows.modelNilRow.holds Try.pinned (OpenSpec.ofChange Rows.modelNilSpec) :=
  OpenClaim.holds_of_wide 4 Try.f4 rfl rfl rfl rfl rfl rfl rfl ⟨rfl, rfl, rfl, rfl, rfl⟩ rfl rfl rfl rfl rfl (by kernel_rfl) Try.func4 (by kernel_rfl)
    (of_decide_eq_true (by kernel_rfl)) (by unfold Func.isWrapper; first | (rw [if_pos (by decide +kernel)]; kernel_rfl) | (rw [if_neg (by decide +kernel)]; exact ⟨rfl, rfl⟩))
    (fun os started H enc _ => lifted os started H enc)

theorem modelNilHolds : Rows.ModelNilSaid := over
#print axioms modelNilHolds
end Go.Proofs.Ytooengicfjcchaa.modelNil
