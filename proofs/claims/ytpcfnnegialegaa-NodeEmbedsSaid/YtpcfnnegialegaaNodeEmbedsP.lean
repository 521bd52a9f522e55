/- 'osierlaw3.NodeEmbeds' returns true for every pair and every three numbers. No condition. -/
import Derived.Test.YtpcfnnegialegaaRows
import Derived.Deep.RegionHeld3
import Derived.Test.YtpcfnnegialegaaNArgs
import Derived.LoopTactic
import Derived.WalkKit
import Derived.ProofKit
import Derived.OpenShut
import Derived.ChangeOld
import Derived.Below
namespace Go.Proofs.Ytpcfnnegialegaa.nodeEmbeds
open Go.ChangeShapes Go.WideShapes Go.ChangeAt Go.RowKit
set_option linter.all false

theorem own : ownKnob Try.prog.godebug = none := by kernel_rfl
theorem laidOut : laidOutB Try.prog = true := by kernel_rfl

theorem emb_keep {w W W' : World} {k0 v0 a1 a2 : Int} (hb : Below W.heap.size W W') (h : W.cell? ⟨w.heap.size, 0, none⟩ = some (.int .i64 k0) ∧ W.cell? ⟨w.heap.size, 1, none⟩ = some (.int .i64 v0) ∧ W.cell? ⟨w.heap.size + 1, 0, none⟩ = some (.int .i64 k0) ∧ W.cell? ⟨w.heap.size + 1, 1, none⟩ = some (.int .i64 v0) ∧ W.cell? ⟨w.heap.size + 1, 2, none⟩ = some (.int .i64 a1) ∧ W.cell? ⟨w.heap.size + 1, 3, none⟩ = some (.int .i64 a2) ∧ W.cell? ⟨w.heap.size + 1, 4, none⟩ = some (.int .i64 0) ∧ W.cell? ⟨w.heap.size + 1, 5, none⟩ = some (.int .i64 0) ∧ Below w.heap.size w W) : W'.cell? ⟨w.heap.size, 0, none⟩ = some (.int .i64 k0) ∧ W'.cell? ⟨w.heap.size, 1, none⟩ = some (.int .i64 v0) ∧ W'.cell? ⟨w.heap.size + 1, 0, none⟩ = some (.int .i64 k0) ∧ W'.cell? ⟨w.heap.size + 1, 1, none⟩ = some (.int .i64 v0) ∧ W'.cell? ⟨w.heap.size + 1, 2, none⟩ = some (.int .i64 a1) ∧ W'.cell? ⟨w.heap.size + 1, 3, none⟩ = some (.int .i64 a2) ∧ W'.cell? ⟨w.heap.size + 1, 4, none⟩ = some (.int .i64 0) ∧ W'.cell? ⟨w.heap.size + 1, 5, none⟩ = some (.int .i64 0) ∧ Below w.heap.size w W' := by
  obtain ⟨h0, h1, h2, h3, h4, h5, h6, h7, h8⟩ := h
  have go : ∀ {q : Addr} {v : Value}, W.cell? q = some v → W'.cell? q = some v := fun hc => (hb.cell (World.block_lt_of_cell? W _ hc)).trans hc
  exact ⟨go h0, go h1, go h2, go h3, go h4, go h5, go h6, go h7, h8.trans (hb.mono h8.size)⟩
theorem emb_new (w : World) (k0 v0 a1 a2 : Int) (W : World) (hW : W = ((w.alloc (.cells #[.int .i64 k0, .int .i64 v0] 29)).alloc (.cells #[.int .i64 k0, .int .i64 v0, .int .i64 a1, .int .i64 a2, .int .i64 0, .int .i64 0] 36)).drew) : W.cell? ⟨w.heap.size, 0, none⟩ = some (.int .i64 k0) ∧ W.cell? ⟨w.heap.size, 1, none⟩ = some (.int .i64 v0) ∧ W.cell? ⟨w.heap.size + 1, 0, none⟩ = some (.int .i64 k0) ∧ W.cell? ⟨w.heap.size + 1, 1, none⟩ = some (.int .i64 v0) ∧ W.cell? ⟨w.heap.size + 1, 2, none⟩ = some (.int .i64 a1) ∧ W.cell? ⟨w.heap.size + 1, 3, none⟩ = some (.int .i64 a2) ∧ W.cell? ⟨w.heap.size + 1, 4, none⟩ = some (.int .i64 0) ∧ W.cell? ⟨w.heap.size + 1, 5, none⟩ = some (.int .i64 0) ∧ Below w.heap.size w W := by
  subst hW
  have b1 : Below w.heap.size w (w.alloc (.cells #[.int .i64 k0, .int .i64 v0] 29)) := (Below.refl _ _).alloc (Nat.le_refl _) _
  refine ⟨by simp, by simp, by simp, by simp, by simp, by simp, by simp, by simp, (b1.alloc b1.size _).drew⟩
theorem leaf_b (v0 v1 v2 v3 v4 v5 : Int) (b : Bool) (hb : (v2 == 0 && v3 == 0) = b) (w : World) :
    Calls Try.prog 12 #[.agg #[.int .i64 v0, .int .i64 v1, .int .i64 v2, .int .i64 v3, .int .i64 v4, .int .i64 v5]] w fun e w' => e = .returned (.bool b) ∧ Below w.heap.size w w' := by
  subst hb; exact leaf_any v0 v1 v2 v3 v4 v5 w
theorem holds_b (v0 v1 v2 v3 v4 v5 k : Int) (b : Bool) (hb : (v0 == k) = b) (w : World) :
    Calls Try.prog 13 #[.agg #[.int .i64 v0, .int .i64 v1, .int .i64 v2, .int .i64 v3, .int .i64 v4, .int .i64 v5], .int .i64 k] w fun e w' => e = .returned (.bool b) ∧ Below w.heap.size w w' := by
  subst hb; exact holds_any v0 v1 v2 v3 v4 v5 k w

set_option maxRecDepth 100000 in
set_option maxHeartbeats 3200000 in
theorem walk (k0 v0 : Int) (a1 : Int) (a2 : Int) (a3 : Int) (w : World) (w1 : (Lit.int .i64 a1).wf = true) (w2 : (Lit.int .i64 a2).wf = true) (w3 : (Lit.int .i64 a3).wf = true) :
    Calls Try.prog 7 #[.agg #[.int .i64 k0, .int .i64 v0], .int .i64 a1, .int .i64 a2, .int .i64 a3] w fun e w' => e = .returned (.bool true) ∧ Below w.heap.size w w' := by
  obtain ⟨bk, hk⟩ : ∃ b, (a3 == k0) = b := ⟨_, rfl⟩
  obtain ⟨b2, h2⟩ : ∃ b, (a2 == 0) = b := ⟨_, rfl⟩
  have ch := fun W => holds_b k0 v0 a1 a2 0 0 a3 bk (by rw [← hk]; rw [Bool.eq_iff_iff, beq_iff_eq, beq_iff_eq]; exact eq_comm) W
  cases h1 : a1 == 0
  · have hl : (a1 == 0 && a2 == 0) = false := by rw [h1]; rfl
    have cl := fun W => leaf_b k0 v0 a1 a2 0 0 false hl W
    clear hl
    go_enter Try.func7, Try.ntmps7
    go_wp2_with (fail)
    first | (go_region_held (fun W => W.cell? ⟨w.heap.size, 0, none⟩ = some (.int .i64 k0) ∧ W.cell? ⟨w.heap.size, 1, none⟩ = some (.int .i64 v0) ∧ W.cell? ⟨w.heap.size + 1, 0, none⟩ = some (.int .i64 k0) ∧ W.cell? ⟨w.heap.size + 1, 1, none⟩ = some (.int .i64 v0) ∧ W.cell? ⟨w.heap.size + 1, 2, none⟩ = some (.int .i64 a1) ∧ W.cell? ⟨w.heap.size + 1, 3, none⟩ = some (.int .i64 a2) ∧ W.cell? ⟨w.heap.size + 1, 4, none⟩ = some (.int .i64 0) ∧ W.cell? ⟨w.heap.size + 1, 5, none⟩ = some (.int .i64 0) ∧ Below w.heap.size w W)
      (first
        | exact emb_keep hb (by assumption)
        | exact emb_new w k0 v0 a1 a2 _ rfl
        | go_keep)
      (first
        | (go_at_call 13; ((with_reducible refine (ch _).mono ?_); rintro e W4 ⟨rfl, hb⟩))
        | (go_at_call 12; ((with_reducible refine (cl _).mono ?_); rintro e W4 ⟨rfl, hb⟩))
        | (go_at_call 8; ((with_reducible refine (awake_any _).mono ?_); rintro e W4 ⟨rfl, hb⟩)))) | fail
    go_split_ands
    go_wp2
    go_ret
    exact ⟨rfl, by assumption⟩
  · have hl : (a1 == 0 && a2 == 0) = b2 := by rw [h1, h2]; rfl
    have cl := fun W => leaf_b k0 v0 a1 a2 0 0 b2 hl W
    clear hl
    go_enter Try.func7, Try.ntmps7
    go_wp2_with (fail)
    first | (go_region_held3 (fun W => W.cell? ⟨w.heap.size, 0, none⟩ = some (.int .i64 k0) ∧ W.cell? ⟨w.heap.size, 1, none⟩ = some (.int .i64 v0) ∧ W.cell? ⟨w.heap.size + 1, 0, none⟩ = some (.int .i64 k0) ∧ W.cell? ⟨w.heap.size + 1, 1, none⟩ = some (.int .i64 v0) ∧ W.cell? ⟨w.heap.size + 1, 2, none⟩ = some (.int .i64 a1) ∧ W.cell? ⟨w.heap.size + 1, 3, none⟩ = some (.int .i64 a2) ∧ W.cell? ⟨w.heap.size + 1, 4, none⟩ = some (.int .i64 0) ∧ W.cell? ⟨w.heap.size + 1, 5, none⟩ = some (.int .i64 0) ∧ Below w.heap.size w W)
      (first
        | exact emb_keep hb (by assumption)
        | exact emb_new w k0 v0 a1 a2 _ rfl
        | go_keep)
      (first
        | (go_at_call 13; ((with_reducible refine (ch _).mono ?_); rintro e W4 ⟨rfl, hb⟩))
        | (go_at_call 12; ((with_reducible refine (cl _).mono ?_); rintro e W4 ⟨rfl, hb⟩))
        | (go_at_call 8; ((with_reducible refine (awake_any _).mono ?_); rintro e W4 ⟨rfl, hb⟩)))) | fail
    go_split_ands
    go_wp2
    go_ret
    exact ⟨rfl, by assumption⟩

set_option maxRecDepth 100000 in
theorem lifted (os : Os) (started : os.Started) (H : Type) (enc : TypeId × Value → H) :
    ReturnsInHanded {} Try.checked os 7 .any (Rows.nodeEmbedsSpec.pre6 enc Try.prog Try.f7 Rows.nodeEmbedsRow.domain false) (Rows.nodeEmbedsSpec.post enc Try.prog Try.f7 false true false false) := by
  refine returnsInHanded_of_change (C := Try.checked) own started (by kernel_rfl) Try.func7
    (ChangeSpec.witness6 (enc := enc) (C := Try.checked) false ⟨#[], #[.agg #[.int .i64 0, .int .i64 0], .int .i64 0, .int .i64 0, .int .i64 0], []⟩ 8 (by kernel_rfl) (by kernel_rfl) (by kernel_rfl) (by kernel_rfl)) ?_
  intro W base args ds gs before hval0 hW hcnd _
  have hval : ∀ (j : Nat) t v, Try.f7.params[j]? = some t → args[j]? = some v → Value.okWide Try.prog W .any base t v := hval0
  have hW' := hW
  obtain ⟨p, q, hA0, hV, rfl, hfz, hnd⟩ := hW
  have hA : DataW.TrodAll enc Try.prog W 0 (fun _ => true) true Try.f7.params.toList args.toList ds p := hA0
  rw [Try.params7] at hA hval
  obtain ⟨v0, vs0, d0, ds0, p0, q0, hargs, rfl, rfl, h0, r0⟩ := trodAll_cons hA
  obtain ⟨v1, vs1, d1, ds1, p1, q1, rfl, rfl, rfl, h1, r1⟩ := trodAll_cons r0
  obtain ⟨v2, vs2, d2, ds2, p2, q2, rfl, rfl, rfl, h2, r2⟩ := trodAll_cons r1
  obtain ⟨v3, vs3, d3, ds3, p3, q3, rfl, rfl, rfl, h3, r3⟩ := trodAll_cons r2
  obtain ⟨rfl, rfl, rfl⟩ := trodAll_nil r3
  obtain rfl : args = #[v0, v1, v2, v3] := by cases args; simp_all
  obtain ⟨rfl, rfl⟩ := trodVars_none hV
  have k0 := h0
  have lt0 : ∀ x ∈ p0, x.block < W.heap.size := by obtain ⟨m, hm⟩ := k0; exact DataW.trod_lt m _ _ _ hm
  obtain ⟨u0, rfl, _⟩ := okWide_struct Try.underlying29 (hval 0 29 v0 rfl rfl)
  obtain ⟨k0_, v0_, e0⟩ := fields_pair (enc := enc) (w := W) (cs := u0.toList) (fuel := h0.choose) (by simpa [Value.cells] using h0.choose_spec)
  obtain rfl : u0 = #[.int .i64 k0_, .int .i64 v0_] := by cases u0; simp_all
  have k1 := h1
  have lt1 : ∀ x ∈ p1, x.block < W.heap.size := by obtain ⟨m, hm⟩ := k1; exact DataW.trod_lt m _ _ _ hm
  obtain ⟨a1, rfl, rfl, rfl, w1⟩ := open_int Try.underlying3 (hval 1 3 v1 rfl rfl) h1
  have k2 := h2
  have lt2 : ∀ x ∈ p2, x.block < W.heap.size := by obtain ⟨m, hm⟩ := k2; exact DataW.trod_lt m _ _ _ hm
  obtain ⟨a2, rfl, rfl, rfl, w2⟩ := open_int Try.underlying3 (hval 2 3 v2 rfl rfl) h2
  have k3 := h3
  have lt3 : ∀ x ∈ p3, x.block < W.heap.size := by obtain ⟨m, hm⟩ := k3; exact DataW.trod_lt m _ _ _ hm
  obtain ⟨a3, rfl, rfl, rfl, w3⟩ := open_int Try.underlying3 (hval 3 3 v3 rfl rfl) h3
  clear hA0 hval0
  refine (walk k0_ v0_ a1 a2 a3 W w1 w2 w3).mono fun e W' ⟨he, bel⟩ => ?_
  subst he
  exact ⟨_, rfl, _, _, _, [], _, [], hW', trodAll_mk1 (shut_bool Try.underlying4 _), (trodAll_cons_mk (Below.trod laidOut (by kernel_rfl) (of_decide_eq_true (by kernel_rfl)) k0 bel lt0) (trodAll_cons_mk (Below.trod laidOut (by kernel_rfl) (of_decide_eq_true (by kernel_rfl)) k1 bel lt1) (trodAll_cons_mk (Below.trod laidOut (by kernel_rfl) (of_decide_eq_true (by kernel_rfl)) k2 bel lt2) (trodAll_cons_mk (Below.trod laidOut (by kernel_rfl) (of_decide_eq_true (by kernel_rfl)) k3 bel lt3) trodAll_mk0)))), rfl, bel.frame _, fun h => by cases h⟩

theorem over : Rows.nodeEmbedsRow.holds Try.pinned (OpenSpec.ofChange Rows.nodeEmbedsSpec) :=
  OpenClaim.holds_of_wide 7 Try.f7 rfl rfl rfl rfl rfl rfl rfl ⟨rfl, rfl, rfl, rfl, rfl⟩ rfl rfl rfl rfl rfl (by kernel_rfl) Try.func7 (by kernel_rfl)
    (of_decide_eq_true (by kernel_rfl)) (by unfold Func.isWrapper; first | (rw [if_pos (by decide +kernel)]; kernel_rfl) | (rw [if_neg (by decide +kernel)]; exact ⟨rfl, rfl⟩))
    (fun os started H enc _ => lifted os started H enc)

theorem nodeEmbedsHolds : Rows.NodeEmbedsSaid := over
#print axioms nodeEmbedsHolds
end Go.Proofs.Ytpcfnnegialegaa.nodeEmbeds
