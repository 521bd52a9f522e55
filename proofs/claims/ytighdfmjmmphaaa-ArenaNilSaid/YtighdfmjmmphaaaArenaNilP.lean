/- 'osierlaw2.ArenaNil' returns true for every Call (any five int64, any slice of int64), and the Call's values read afterwards as before. No condition. -/
import Derived.Test.YtighdfmjmmphaaaRows
import Derived.Deep.RegionHeld3
import Derived.Test.YtighdfmjmmphaaaHeavy
import Derived.LoopTactic
import Derived.WalkKit
import Derived.ProofKit
import Derived.OpenShut
import Derived.ChangeOld
import Derived.Below
namespace Go.Proofs.Ytighdfmjmmphaaa.arenaNil
open Go.ChangeShapes Go.WideShapes Go.ChangeAt Go.RowKit
set_option linter.unusedVariables false

theorem own : ownKnob Try.prog.godebug = none := by kernel_rfl
theorem laidOut : laidOutB Try.prog = true := by kernel_rfl

theorem one_call (w W : World) (c : CallD) (a : Option Addr) (cap g : Nat) (h : Vals w a cap c.vs) (hb : Below w.heap.size w W) (hg : g = W.heap.size) :
    ArgCalls (W.alloc (.cells #[.int .i64 c.d, .int .i64 c.k, .int .i64 c.id, .int .i64 c.old, .int .i64 c.now, .slice a c.vs.length cap] 31)) (some ⟨g, 0, none⟩) 1 [c] := by
  subst hg
  refine ⟨rfl, by simp [maxLen], fun n d hd => ?_⟩
  obtain rfl : n = 0 := by
    rcases Nat.eq_zero_or_pos n with h | h
    · exact h
    · rw [List.getElem?_eq_none (by simp; omega)] at hd; cases hd
  simp only [List.getElem?_cons_zero, Option.some.injEq] at hd
  subst hd
  refine ⟨_, _, a, cap, rfl, ⟨by simp, by simp, by simp, by simp, by simp, by simp, h.1, h.2.1, fun x hx n hn => ?_⟩⟩
  have := h.2.2 x hx n hn
  exact ((hb.alloc hb.size _).cell (World.block_lt_of_cell? w _ this)).trans this

/-- The boxed Call, in whatever world follows. -/
structure Box (w : World) (c : CallD) (W : World) : Prop where
  x2 : W.cell? ⟨w.heap.size, 2, none⟩ = some (.int .i64 c.id)
  x3 : W.cell? ⟨w.heap.size, 3, none⟩ = some (.int .i64 c.old)
  x4 : W.cell? ⟨w.heap.size, 4, none⟩ = some (.int .i64 c.now)
  b : Below w.heap.size w W
  lt : w.heap.size < W.heap.size
theorem Box.next {w W W' : World} {c : CallD} (h : Box w c W) (hb : Below W.heap.size W W') : Box w c W' :=
  ⟨(hb.cell (p := ⟨w.heap.size, 2, none⟩) h.lt).trans h.x2, (hb.cell (p := ⟨w.heap.size, 3, none⟩) h.lt).trans h.x3, (hb.cell (p := ⟨w.heap.size, 4, none⟩) h.lt).trans h.x4, h.b.trans (hb.mono (Nat.le_of_lt h.lt)), Nat.lt_of_lt_of_le h.lt hb.size⟩

set_option maxRecDepth 100000 in
set_option maxHeartbeats 3200000 in
theorem walk (z0 : CallD) (a0 : Option Addr) (cap0 : Nat) (w : World) (w0 : Vals w a0 cap0 z0.vs) :
    Calls Try.prog 4 #[.agg #[.int .i64 z0.d, .int .i64 z0.k, .int .i64 z0.id, .int .i64 z0.old, .int .i64 z0.now, .slice a0 z0.vs.length cap0]] w fun e w' => e = .returned (.bool true) ∧ Below w.heap.size w w' := by
  have h1 : Below w.heap.size w (w.alloc (.cells #[.int .i64 z0.d, .int .i64 z0.k, .int .i64 z0.id, .int .i64 z0.old, .int .i64 z0.now, .slice a0 z0.vs.length cap0] 31)) := (Below.refl _ _).alloc (Nat.le_refl _) _
  have ch := heavy_any _ _ _ 1 _ (one_call w _ z0 a0 cap0 (w.heap.size + 1) w0 h1 (by simp))
  have hA := @awake_any
  have e0 : (w.alloc (.cells #[.int .i64 z0.d, .int .i64 z0.k, .int .i64 z0.id, .int .i64 z0.old, .int .i64 z0.now, .slice a0 z0.vs.length cap0] 31)).heap.size = w.heap.size + 1 := by simp
  obtain ⟨W2, hW2⟩ : ∃ W2, W2 = (w.alloc (.cells #[.int .i64 z0.d, .int .i64 z0.k, .int .i64 z0.id, .int .i64 z0.old, .int .i64 z0.now, .slice a0 z0.vs.length cap0] 31)).alloc (.cells #[.int .i64 z0.d, .int .i64 z0.k, .int .i64 z0.id, .int .i64 z0.old, .int .i64 z0.now, .slice a0 z0.vs.length cap0] 31) := ⟨_, rfl⟩
  have h2 : Below w.heap.size w W2 := by rw [hW2]; exact h1.alloc h1.size _
  have x1 : W2.cell? ⟨w.heap.size, 1, none⟩ = some (.int .i64 z0.k) := by rw [hW2]; simp
  have x2 : W2.cell? ⟨w.heap.size, 2, none⟩ = some (.int .i64 z0.id) := by rw [hW2]; simp
  have x3 : W2.cell? ⟨w.heap.size, 3, none⟩ = some (.int .i64 z0.old) := by rw [hW2]; simp
  have x4 : W2.cell? ⟨w.heap.size, 4, none⟩ = some (.int .i64 z0.now) := by rw [hW2]; simp
  have x5 : W2.cell? ⟨w.heap.size, 5, none⟩ = some (.slice a0 z0.vs.length cap0) := by rw [hW2]; simp
  have hlt : w.heap.size < W2.heap.size := by rw [hW2]; simp; omega
  rw [← hW2] at ch
  have HW := Lib.hid hW2
  clear hW2 e0 h1 hA
  go_enter Try.func4, Try.ntmps4
  have B2 : Box w z0 W2 := ⟨x2, x3, x4, h2, hlt⟩
  clear x2 x3 x4 h2
  go_wp2_with (first
    | (go_at_call 9; rw [← HW.out]; ((with_reducible refine ch.mono ?_); clear ch HW; rintro e W3 ⟨hb, ⟨hl, rfl⟩ | ⟨hl, hh, hpos, rfl⟩⟩; all_goals (have x1 := (hb.cell (p := ⟨w.heap.size, 1, none⟩) hlt).trans x1; have x5 := (hb.cell (p := ⟨w.heap.size, 5, none⟩) hlt).trans x5; obtain ⟨x2, x3, x4, xb, hlt⟩ := B2.next hb; clear hb B2)))
    | (go_at_call 13; ((with_reducible refine (make_nil _ _ _).mono ?_); rintro e W4 ⟨rfl, rfl⟩))
    | (go_at_call 15; ((with_reducible refine (cell_nil _ _).mono ?_); rintro e W4 ⟨rfl, rfl⟩))
    | (go_at_call 10; ((with_reducible refine (awake_any _).mono ?_); rintro e W4 ⟨rfl, hb⟩)))
  · clear x1 x5 hl
    dsimp only [List.append]
    have hw0 : IntKind.i64.wrap 0 = 0 := by decide +kernel
    go_region_held3 (fun W => W.cell? ⟨w.heap.size, 2, none⟩ = some (.int .i64 z0.id) ∧ W.cell? ⟨w.heap.size, 3, none⟩ = some (.int .i64 z0.old) ∧ W.cell? ⟨w.heap.size, 4, none⟩ = some (.int .i64 z0.now) ∧ Below w.heap.size w W ∧ w.heap.size < W.heap.size)
      (first
        | (go_split_ands; exact ⟨(hb.cell (p := ⟨w.heap.size, 2, none⟩) (by assumption)).trans (by assumption), (hb.cell (p := ⟨w.heap.size, 3, none⟩) (by assumption)).trans (by assumption), (hb.cell (p := ⟨w.heap.size, 4, none⟩) (by assumption)).trans (by assumption), Below.trans (by assumption) (hb.mono (Nat.le_of_lt (by assumption))), Nat.lt_of_lt_of_le (by assumption) hb.size⟩)
        | exact ⟨by assumption, by assumption, by assumption, Below.drew (by assumption), by assumption⟩
        | (go_split_ands; exact ⟨by assumption, by assumption, by assumption, by assumption, by assumption⟩)
        | go_keep)
      (first
        | (go_at_call 25; ((with_reducible refine (kind_nil _ _).mono ?_); rintro e W4 ⟨rfl, hb⟩))
        | (go_at_call 23; ((with_reducible refine (val_nil _ _ _).mono ?_); rintro e W4 ⟨rfl, hb⟩))
        | (go_at_call 17; ((with_reducible refine (load_nil _ _).mono ?_); rintro e W4 ⟨rfl, hb⟩))
        | (go_at_call 27; ((with_reducible refine (used_nil _).mono ?_); rintro e W4 ⟨rfl, rfl⟩))
        | (go_at_call 28; ((with_reducible refine (room_nil _).mono ?_); rintro e W4 ⟨rfl, rfl⟩))
        | (go_at_call 29; ((with_reducible refine (steps_nil _).mono ?_); rintro e W4 ⟨rfl, rfl⟩))
        | (go_at_call 19; ((with_reducible refine (swap_nil _ _ _ _).mono ?_); rintro e W4 ⟨rfl, hb⟩))
        | (go_at_call 21; ((with_reducible refine (once_nil _ _ _).mono ?_); rintro e W4 ⟨rfl, hb⟩))
        | (go_at_call 10; ((with_reducible refine (awake_any _).mono ?_); rintro e W4 ⟨rfl, hb⟩)))
    go_split_ands
    go_wp2
    go_ret
    exact ⟨rfl, by assumption⟩
  · go_ret
    exact ⟨rfl, xb.trans (hb.mono (Nat.le_of_lt hlt))⟩

set_option maxRecDepth 100000 in
theorem lifted (os : Os) (started : os.Started) (H : Type) (enc : TypeId × Value → H) :
    ReturnsInHanded {} Try.checked os 4 .any (Rows.arenaNilSpec.pre6 enc Try.prog Try.f4 Rows.arenaNilRow.domain false) (Rows.arenaNilSpec.post enc Try.prog Try.f4 false true false false) := by
  refine returnsInHanded_of_change (C := Try.checked) own started (by kernel_rfl) Try.func4
    (ChangeSpec.witness6 (enc := enc) (C := Try.checked) false ⟨#[], #[.agg #[.int .i64 0, .int .i64 0, .int .i64 0, .int .i64 0, .int .i64 0, .slice none 0 0]], []⟩ 8 (by kernel_rfl) (by kernel_rfl) (by kernel_rfl) (by kernel_rfl)) ?_
  intro W base args ds gs before hval0 hW hcnd _
  have hval : ∀ (j : Nat) t v, Try.f4.params[j]? = some t → args[j]? = some v → Value.okWide Try.prog W .any base t v := hval0
  have hW' := hW
  obtain ⟨p, q, hA0, hV, rfl, hfz, hnd⟩ := hW
  have hA : DataW.TrodAll enc Try.prog W 0 (fun _ => true) true Try.f4.params.toList args.toList ds p := hA0
  rw [Try.params4] at hA hval
  obtain ⟨v0, vs0, d0, ds0, p0, q0, hargs, rfl, rfl, h0, r0⟩ := trodAll_cons hA
  obtain ⟨rfl, rfl, rfl⟩ := trodAll_nil r0
  obtain rfl : args = #[v0] := by cases args; simp_all
  obtain ⟨rfl, rfl⟩ := trodVars_none hV
  have k0 := h0
  have lt0 : ∀ x ∈ p0, x.block < W.heap.size := by obtain ⟨m, hm⟩ := k0; exact DataW.trod_lt m _ _ _ hm
  obtain ⟨u0, rfl, _⟩ := okWide_struct Try.underlying31 (hval 0 31 v0 rfl rfl)
  obtain ⟨z0, a0, cap0, e0, w0⟩ := fields6 (enc := enc) (w := W) (cs := u0.toList) (fuel := h0.choose) (by simpa [Value.cells] using h0.choose_spec)
  obtain rfl : u0 = #[.int .i64 z0.d, .int .i64 z0.k, .int .i64 z0.id, .int .i64 z0.old, .int .i64 z0.now, .slice a0 z0.vs.length cap0] := by cases u0; simp_all
  clear hA0 hval0
  refine (walk z0 a0 cap0 W w0).mono fun e W' ⟨he, bel⟩ => ?_
  subst he
  exact ⟨_, rfl, _, _, _, [], _, [], hW', trodAll_mk1 (shut_bool Try.underlying4 _), (trodAll_cons_mk (Below.trod laidOut (by kernel_rfl) (of_decide_eq_true (by kernel_rfl)) k0 bel lt0) trodAll_mk0), rfl, bel.frame _, fun h => by cases h⟩

theorem over : Rows.arenaNilRow.holds Try.pinned (OpenSpec.ofChange Rows.arenaNilSpec) :=
  OpenClaim.holds_of_wide 4 Try.f4 rfl rfl rfl rfl rfl rfl rfl ⟨rfl, rfl, rfl, rfl, rfl⟩ rfl rfl rfl rfl rfl (by kernel_rfl) Try.func4 (by kernel_rfl)
    (of_decide_eq_true (by kernel_rfl)) (by unfold Func.isWrapper; first | (rw [if_pos (by decide +kernel)]; kernel_rfl) | (rw [if_neg (by decide +kernel)]; exact ⟨rfl, rfl⟩))
    (fun os started H enc _ => lifted os started H enc)

theorem arenaNilHolds : Rows.ArenaNilSaid := over
#print axioms arenaNilHolds
end Go.Proofs.Ytighdfmjmmphaaa.arenaNil
