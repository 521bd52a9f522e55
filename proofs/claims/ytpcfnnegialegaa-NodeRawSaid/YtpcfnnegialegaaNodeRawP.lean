/- 'osierlaw3.NodeRaw' returns true for every two integers, every slice of integers and every pair. No condition. -/
import Derived.Test.YtpcfnnegialegaaRows
import Derived.Deep.RegionHeld3
import Derived.Test.YtpcfnnegialegaaNArgs
import Derived.LoopTactic
import Derived.WalkKit
import Derived.ProofKit
import Derived.OpenShut
import Derived.ChangeOld
import Derived.Below
namespace Go.Proofs.Ytpcfnnegialegaa.nodeRaw
open Go.ChangeShapes Go.WideShapes Go.ChangeAt Go.RowKit
set_option linter.all false

theorem own : ownKnob Try.prog.godebug = none := by kernel_rfl
theorem laidOut : laidOutB Try.prog = true := by kernel_rfl

attribute [local go_sem] undef

theorem wu (a : Int) : IntKind.u64.wrap a = a % 18446744073709551616 := by first | rfl | simp [IntKind.wrap]
theorem kind9 (a : Int) : ∃ K : Int, 1 ≤ K ∧ K ≤ 9 ∧ wrap64 (1 + wrap64 ((IntKind.u64.wrap a).tmod 9)) = K := by
  have h0 : 0 ≤ a % 18446744073709551616 := Int.emod_nonneg _ (by decide)
  refine ⟨1 + (a % 18446744073709551616) % 9, by omega, by omega, ?_⟩
  rw [wu, Int.tmod_eq_emod_of_nonneg h0]
  unfold wrap64
  omega

theorem leaf_b (v0 v1 v2 v3 v4 v5 : Int) (b : Bool) (hb : (v2 == 0 && v3 == 0) = b) (w : World) :
    Calls Try.prog 12 #[.agg #[.int .i64 v0, .int .i64 v1, .int .i64 v2, .int .i64 v3, .int .i64 v4, .int .i64 v5]] w fun e w' => e = .returned (.bool b) ∧ Below w.heap.size w w' := by
  subst hb; exact leaf_any v0 v1 v2 v3 v4 v5 w
theorem holds_b (v0 v1 v2 v3 v4 v5 k : Int) (b : Bool) (hb : (v0 == k) = b) (w : World) :
    Calls Try.prog 13 #[.agg #[.int .i64 v0, .int .i64 v1, .int .i64 v2, .int .i64 v3, .int .i64 v4, .int .i64 v5], .int .i64 k] w fun e w' => e = .returned (.bool b) ∧ Below w.heap.size w w' := by
  subst hb; exact holds_any v0 v1 v2 v3 v4 v5 k w

/-- Get: a node or none, whichever it is. -/
theorem get_either {w0 w : World} {p : Nat} {room st : Int} {l : List It} (h : Held w0 w p room st l) (id : Int) (b : Bool) (hb : (kindL l id == 1) = b) :
    Calls Try.prog 11 #[.pointer (some ⟨p, 0, none⟩), .int .i64 id] w fun e w' =>
      (∃ n0 n1 n2 n3 n4 n5 : Int, e = .returned (.tuple #[.agg #[.int .i64 n0, .int .i64 n1, .int .i64 n2, .int .i64 n3, .int .i64 n4, .int .i64 n5], .bool b])) ∧ Held w0 w' p room st l := by
  by_cases hk : kindL l id = 1
  · obtain rfl : b = true := by rw [← hb]; simp [hk]
    exact (get_held h id _ _ _ _ _ _ hk rfl rfl rfl rfl rfl rfl).mono fun e w' ⟨he, hh⟩ => ⟨⟨_, _, _, _, _, _, he⟩, hh⟩
  · obtain rfl : b = false := by rw [← hb]; simp [hk]
    exact (get_held_no h id hk).mono fun e w' ⟨he, hh⟩ => ⟨⟨_, _, _, _, _, _, he⟩, hh⟩

theorem kind_one (K : Int) (vs : List Int) : kindL [(K, vs), (0, [1])] 1 = K := rfl
theorem kind_two (K : Int) (vs : List Int) : kindL [(K, vs), (0, [1])] 2 = 0 := rfl
theorem kind_other (K : Int) (vs : List Int) (id : Int) (h : kindL [(K, vs), (0, [1])] id = 1) : id = 1 := by
  unfold kindL at h
  cases hx : itemAt [(K, vs), (0, [1])] id with
  | none => rw [hx] at h; simp at h
  | some x =>
    obtain ⟨i, rfl, hi, hlt⟩ := itemAt_some hx
    match i, hlt with
    | 0, _ => rfl
    | 1, _ => rw [hx] at h; simp at hi; subst hi; simp at h
theorem hung_two (K : Int) (vs : List Int) : ¬ (HungOk [(K, vs), (0, [1])] 2 ∧ HungOk [(K, vs), (0, [1])] 0) := by
  rintro ⟨h | h, _⟩
  · omega
  · rw [kind_two] at h; omega
/-- The boxed pair and the node, later. -/
theorem raw_keep {w1 W W' : World} {b c : Nat} {k v : Int} (hb : Below W.heap.size W W') (h : W.cell? ⟨b, 0, none⟩ = some (.int .i64 k) ∧ W.cell? ⟨b, 1, none⟩ = some (.int .i64 v) ∧ W.cell? ⟨c, 0, none⟩ = some (.int .i64 k) ∧ W.cell? ⟨c, 1, none⟩ = some (.int .i64 v) ∧ W.cell? ⟨c, 2, none⟩ = some (.int .i64 0) ∧ W.cell? ⟨c, 3, none⟩ = some (.int .i64 0) ∧ W.cell? ⟨c, 4, none⟩ = some (.int .i64 0) ∧ W.cell? ⟨c, 5, none⟩ = some (.int .i64 0) ∧ Below w1.heap.size w1 W) : W'.cell? ⟨b, 0, none⟩ = some (.int .i64 k) ∧ W'.cell? ⟨b, 1, none⟩ = some (.int .i64 v) ∧ W'.cell? ⟨c, 0, none⟩ = some (.int .i64 k) ∧ W'.cell? ⟨c, 1, none⟩ = some (.int .i64 v) ∧ W'.cell? ⟨c, 2, none⟩ = some (.int .i64 0) ∧ W'.cell? ⟨c, 3, none⟩ = some (.int .i64 0) ∧ W'.cell? ⟨c, 4, none⟩ = some (.int .i64 0) ∧ W'.cell? ⟨c, 5, none⟩ = some (.int .i64 0) ∧ Below w1.heap.size w1 W' := by
  obtain ⟨h0, h1, h2, h3, h4, h5, h6, h7, h8⟩ := h
  have go : ∀ {q : Addr} {v : Value}, W.cell? q = some v → W'.cell? q = some v := fun hc => (hb.cell (World.block_lt_of_cell? W _ hc)).trans hc
  exact ⟨go h0, go h1, go h2, go h3, go h4, go h5, go h6, go h7, h8.trans (hb.mono h8.size)⟩
theorem raw_new {w1 W11 : World} {p b : Nat} {room st : Int} {l : List It} {k v : Int} (h : Held w1 W11 p room st l) (g0 : w1.cell? ⟨b, 0, none⟩ = some (.int .i64 k)) (g1 : w1.cell? ⟨b, 1, none⟩ = some (.int .i64 v)) :
    ∀ W, W = (W11.alloc (.cells #[.int .i64 k, .int .i64 v, .int .i64 0, .int .i64 0, .int .i64 0, .int .i64 0] 36)).drew → W.cell? ⟨b, 0, none⟩ = some (.int .i64 k) ∧ W.cell? ⟨b, 1, none⟩ = some (.int .i64 v) ∧ W.cell? ⟨W11.heap.size, 0, none⟩ = some (.int .i64 k) ∧ W.cell? ⟨W11.heap.size, 1, none⟩ = some (.int .i64 v) ∧ W.cell? ⟨W11.heap.size, 2, none⟩ = some (.int .i64 0) ∧ W.cell? ⟨W11.heap.size, 3, none⟩ = some (.int .i64 0) ∧ W.cell? ⟨W11.heap.size, 4, none⟩ = some (.int .i64 0) ∧ W.cell? ⟨W11.heap.size, 5, none⟩ = some (.int .i64 0) ∧ Below w1.heap.size w1 W := by
  rintro W rfl
  have hh := h.alloc (.cells #[.int .i64 k, .int .i64 v, .int .i64 0, .int .i64 0, .int .i64 0, .int .i64 0] 36)
  exact ⟨hh.old g0, hh.old g1, by simp, by simp, by simp, by simp, by simp, by simp, hh.b.drew⟩

set_option maxRecDepth 100000 in
set_option maxHeartbeats 12800000 in
theorem walk (a0 : Int) (a1 : Int) (a2 : Option Addr) (cap2 : Nat) (z2 : List Int) (k3 v3 : Int) (w : World) (w0 : (Lit.int .i64 a0).wf = true) (w1 : (Lit.int .i64 a1).wf = true) (w2 : Vals w a2 cap2 z2) :
    Calls Try.prog 4 #[.int .i64 a0, .int .i64 a1, .slice a2 z2.length cap2, .agg #[.int .i64 k3, .int .i64 v3]] w fun e w' => e = .returned (.bool true) ∧ Below w.heap.size w w' := by
  obtain ⟨K, hK1, hK9, hK⟩ := kind9 a0
  have hz2 := w2.1
  have W2 := Lib.hid w2
  clear w2
  unfold maxLen at hz2
  by_cases h12 : 12 < z2.length
  · have h12' : (12 : Int) < (z2.length : Int) := by omega
    clear hK
    go_enter Try.func4, Try.ntmps4
    go_wp2_with (go_at_call 8; ((with_reducible refine (awake_any _).mono ?_); rintro e W3 ⟨rfl, hb3⟩))
    go_ret
    exact ⟨rfl, below_past (Below.refl _ _) hb3⟩
  have h12' : ¬ (12 : Int) < (z2.length : Int) := by omega
  obtain ⟨b1, hb1⟩ : ∃ b, (K == 1) = b := ⟨_, rfl⟩
  have b0 : Below w.heap.size w (w.alloc (.cells #[.int .i64 k3, .int .i64 v3] 29)) := (Below.refl _ _).alloc (Nat.le_refl _) _
  have g0 : (w.alloc (.cells #[.int .i64 k3, .int .i64 v3] 29)).cell? ⟨w.heap.size, 0, none⟩ = some (.int .i64 k3) := by simp
  have g1 : (w.alloc (.cells #[.int .i64 k3, .int .i64 v3] 29)).cell? ⟨w.heap.size, 1, none⟩ = some (.int .i64 v3) := by simp
  have hl := fun W => leaf_b k3 v3 0 0 0 0 true rfl W
  cases hgi : kindL [(K, z2), (0, [1])] a1 == 1
  · obtain ⟨bk, hbk⟩ : ∃ b, (k3 == a1) = b := ⟨_, rfl⟩
    have hh := fun W => holds_b k3 v3 0 0 0 0 a1 bk hbk W
    go_enter Try.func4, Try.ntmps4
    go_wp2_with (first
      | (go_at_call 9; have cc := new_held 9 9 (w.alloc (.cells #[.int .i64 k3, .int .i64 v3] 29)) _ (Below.refl _ _) (by decide); ((with_reducible refine cc.mono ?_); clear cc; rintro e W3 ⟨p, rfl, h1⟩))
      | (go_at_call 14; have cc := make_held h1 K z2 _ 1 [(K, z2)] hK1 (by omega) (W2.out.ints (b0.trans (h1.b.mono b0.size)) (fun b hb => by simp; omega)) (by decide) rfl rfl; ((with_reducible refine cc.mono ?_); clear cc; rintro e W4 ⟨rfl, h2⟩; clear h1))
      | (go_at_call 15; have cc := cell_held h2 1 2 [(K, z2), (0, [1])] (by simp) rfl rfl; ((with_reducible refine cc.mono ?_); clear cc; rintro e W5 ⟨rfl, h3⟩; clear h2))
      | (go_at_call 11; have cc := get_either h3 1 b1 (by rw [kind_one]; exact hb1); ((with_reducible refine cc.mono ?_); clear cc; rintro e W6 ⟨⟨m0, m1, m2, m3, m4, m5, rfl⟩, h4⟩; clear h3))
      | (go_at_call 11; ((with_reducible refine (get_held_no (h4.alloc _) 2 (by rw [kind_two]; omega)).mono ?_); rintro e W7 ⟨rfl, h5⟩; clear h4))
      | (go_at_call 11; ((with_reducible refine (get_either (h5.alloc _) a1 false hgi).mono ?_); rintro e W8 ⟨⟨q0, q1, q2, q3, q4, q5, rfl⟩, h6⟩; clear h5))
      | (go_at_call 11; ((with_reducible refine (get_nil a1 _).mono ?_); rintro e W9 ⟨rfl, hb⟩; have h7 := (h6.alloc _).below hb; have x0 := cell_alloc (h7.old g0) (.cells #[.int .i64 0, .int .i64 0, .int .i64 0, .int .i64 0, .int .i64 0, .int .i64 0] 36); have x1 := cell_alloc (h7.old g1) (.cells #[.int .i64 0, .int .i64 0, .int .i64 0, .int .i64 0, .int .i64 0, .int .i64 0] 36); clear h6 hb))
      | (go_at_call 10; ((with_reducible refine (nmake_nil k3 v3 0 0 _).mono ?_); rintro e W10 ⟨rfl, hb⟩; have h8 := (h7.alloc _).below hb; have y0 := h8.old g0; have y1 := h8.old g1; clear h7 hb x0 x1))
      | (go_at_call 10; ((with_reducible refine (nmake_held_bad h8 k3 v3 2 0 (hung_two K z2)).mono ?_); rintro e W11 ⟨rfl, h9⟩; have x0 := h9.old g0; have x1 := h9.old g1; clear h8 y0 y1)))
    dsimp only [List.append]
    first | ((go_region_held (fun W => W.cell? ⟨w.heap.size, 0, none⟩ = some (.int .i64 k3) ∧ W.cell? ⟨w.heap.size, 1, none⟩ = some (.int .i64 v3) ∧ W.cell? ⟨W11.heap.size, 0, none⟩ = some (.int .i64 k3) ∧ W.cell? ⟨W11.heap.size, 1, none⟩ = some (.int .i64 v3) ∧ W.cell? ⟨W11.heap.size, 2, none⟩ = some (.int .i64 0) ∧ W.cell? ⟨W11.heap.size, 3, none⟩ = some (.int .i64 0) ∧ W.cell? ⟨W11.heap.size, 4, none⟩ = some (.int .i64 0) ∧ W.cell? ⟨W11.heap.size, 5, none⟩ = some (.int .i64 0) ∧ Below (w.alloc (.cells #[.int .i64 k3, .int .i64 v3] 29)).heap.size (w.alloc (.cells #[.int .i64 k3, .int .i64 v3] 29)) W)
      (first
        | exact raw_keep hb (by assumption)
        | exact raw_new h9 g0 g1 _ rfl
        | go_keep)
      (first
        | (go_at_call 13; ((with_reducible refine (hh _).mono ?_); rintro e W14 ⟨rfl, hb⟩))
        | (go_at_call 12; ((with_reducible refine (hl _).mono ?_); rintro e W14 ⟨rfl, hb⟩))
        | (go_at_call 8; ((with_reducible refine (awake_any _).mono ?_); rintro e W14 ⟨rfl, hb⟩))))) | fail
    all_goals go_split_ands
    all_goals go_wp2
    all_goals go_ret
    all_goals exact ⟨rfl, b0.trans (Below.mono (by assumption) b0.size)⟩
  · obtain rfl := kind_other K z2 a1 (by simpa using hgi)
    obtain ⟨bk, hbk⟩ : ∃ b, (k3 == 1) = b := ⟨_, rfl⟩
    have hh := fun W => holds_b k3 v3 0 0 0 0 1 bk hbk W
    go_enter Try.func4, Try.ntmps4
    go_wp2_with (first
      | (go_at_call 9; have cc := new_held 9 9 (w.alloc (.cells #[.int .i64 k3, .int .i64 v3] 29)) _ (Below.refl _ _) (by decide); ((with_reducible refine cc.mono ?_); clear cc; rintro e W3 ⟨p, rfl, h1⟩))
      | (go_at_call 14; have cc := make_held h1 K z2 _ 1 [(K, z2)] hK1 (by omega) (W2.out.ints (b0.trans (h1.b.mono b0.size)) (fun b hb => by simp; omega)) (by decide) rfl rfl; ((with_reducible refine cc.mono ?_); clear cc; rintro e W4 ⟨rfl, h2⟩; clear h1))
      | (go_at_call 15; have cc := cell_held h2 1 2 [(K, z2), (0, [1])] (by simp) rfl rfl; ((with_reducible refine cc.mono ?_); clear cc; rintro e W5 ⟨rfl, h3⟩; clear h2))
      | (go_at_call 11; have cc := get_either h3 1 b1 (by rw [kind_one]; exact hb1); ((with_reducible refine cc.mono ?_); clear cc; rintro e W6 ⟨⟨m0, m1, m2, m3, m4, m5, rfl⟩, h4⟩; clear h3))
      | (go_at_call 11; ((with_reducible refine (get_held_no (h4.alloc _) 2 (by rw [kind_two]; omega)).mono ?_); rintro e W7 ⟨rfl, h5⟩; clear h4))
      | (go_at_call 11; ((with_reducible refine (get_either (h5.alloc _) 1 true hgi).mono ?_); rintro e W8 ⟨⟨q0, q1, q2, q3, q4, q5, rfl⟩, h6⟩; clear h5))
      | (go_at_call 11; ((with_reducible refine (get_nil 1 _).mono ?_); rintro e W9 ⟨rfl, hb⟩; have h7 := (h6.alloc _).below hb; have x0 := cell_alloc (h7.old g0) (.cells #[.int .i64 0, .int .i64 0, .int .i64 0, .int .i64 0, .int .i64 0, .int .i64 0] 36); have x1 := cell_alloc (h7.old g1) (.cells #[.int .i64 0, .int .i64 0, .int .i64 0, .int .i64 0, .int .i64 0, .int .i64 0] 36); clear h6 hb))
      | (go_at_call 10; ((with_reducible refine (nmake_nil k3 v3 0 0 _).mono ?_); rintro e W10 ⟨rfl, hb⟩; have h8 := (h7.alloc _).below hb; have y0 := h8.old g0; have y1 := h8.old g1; clear h7 hb x0 x1))
      | (go_at_call 10; ((with_reducible refine (nmake_held_bad h8 k3 v3 2 0 (hung_two K z2)).mono ?_); rintro e W11 ⟨rfl, h9⟩; have x0 := h9.old g0; have x1 := h9.old g1; clear h8 y0 y1)))
    dsimp only [List.append]
    first | ((go_region_held (fun W => W.cell? ⟨w.heap.size, 0, none⟩ = some (.int .i64 k3) ∧ W.cell? ⟨w.heap.size, 1, none⟩ = some (.int .i64 v3) ∧ W.cell? ⟨W11.heap.size, 0, none⟩ = some (.int .i64 k3) ∧ W.cell? ⟨W11.heap.size, 1, none⟩ = some (.int .i64 v3) ∧ W.cell? ⟨W11.heap.size, 2, none⟩ = some (.int .i64 0) ∧ W.cell? ⟨W11.heap.size, 3, none⟩ = some (.int .i64 0) ∧ W.cell? ⟨W11.heap.size, 4, none⟩ = some (.int .i64 0) ∧ W.cell? ⟨W11.heap.size, 5, none⟩ = some (.int .i64 0) ∧ Below (w.alloc (.cells #[.int .i64 k3, .int .i64 v3] 29)).heap.size (w.alloc (.cells #[.int .i64 k3, .int .i64 v3] 29)) W)
      (first
        | exact raw_keep hb (by assumption)
        | exact raw_new h9 g0 g1 _ rfl
        | go_keep)
      (first
        | (go_at_call 13; ((with_reducible refine (hh _).mono ?_); rintro e W14 ⟨rfl, hb⟩))
        | (go_at_call 12; ((with_reducible refine (hl _).mono ?_); rintro e W14 ⟨rfl, hb⟩))
        | (go_at_call 8; ((with_reducible refine (awake_any _).mono ?_); rintro e W14 ⟨rfl, hb⟩))))) | fail
    all_goals go_split_ands
    all_goals go_wp2
    all_goals go_ret
    all_goals exact ⟨rfl, b0.trans (Below.mono (by assumption) b0.size)⟩

set_option maxRecDepth 100000 in
theorem lifted (os : Os) (started : os.Started) (H : Type) (enc : TypeId × Value → H) :
    ReturnsInHanded {} Try.checked os 4 .any (Rows.nodeRawSpec.pre6 enc Try.prog Try.f4 Rows.nodeRawRow.domain false) (Rows.nodeRawSpec.post enc Try.prog Try.f4 false true false false) := by
  refine returnsInHanded_of_change (C := Try.checked) own started (by kernel_rfl) Try.func4
    (ChangeSpec.witness6 (enc := enc) (C := Try.checked) false ⟨#[], #[.int .i64 0, .int .i64 0, .slice none 0 0, .agg #[.int .i64 0, .int .i64 0]], []⟩ 8 (by kernel_rfl) (by kernel_rfl) (by kernel_rfl) (by kernel_rfl)) ?_
  intro W base args ds gs before hval0 hW hcnd _
  have hval : ∀ (j : Nat) t v, Try.f4.params[j]? = some t → args[j]? = some v → Value.okWide Try.prog W .any base t v := hval0
  have hW' := hW
  obtain ⟨p, q, hA0, hV, rfl, hfz, hnd⟩ := hW
  have hA : DataW.TrodAll enc Try.prog W 0 (fun _ => true) true Try.f4.params.toList args.toList ds p := hA0
  rw [Try.params4] at hA hval
  obtain ⟨v0, vs0, d0, ds0, p0, q0, hargs, rfl, rfl, h0, r0⟩ := trodAll_cons hA
  obtain ⟨v1, vs1, d1, ds1, p1, q1, rfl, rfl, rfl, h1, r1⟩ := trodAll_cons r0
  obtain ⟨v2, vs2, d2, ds2, p2, q2, rfl, rfl, rfl, h2, r2⟩ := trodAll_cons r1
  obtain ⟨v3, vs3, d3, ds3, p3, q3, rfl, rfl, rfl, h3, r3⟩ := trodAll_cons r2
  obtain ⟨rfl, rfl, rfl⟩ := trodAll_nil r3
  obtain rfl : args = #[v0, v1, v2, v3] := by cases args; simp_all
  obtain ⟨rfl, rfl⟩ := trodVars_none hV
  have k0 := h0
  have lt0 : ∀ x ∈ p0, x.block < W.heap.size := by obtain ⟨m, hm⟩ := k0; exact DataW.trod_lt m _ _ _ hm
  obtain ⟨a0, rfl, rfl, rfl, w0⟩ := open_int Try.underlying3 (hval 0 3 v0 rfl rfl) h0
  have k1 := h1
  have lt1 : ∀ x ∈ p1, x.block < W.heap.size := by obtain ⟨m, hm⟩ := k1; exact DataW.trod_lt m _ _ _ hm
  obtain ⟨a1, rfl, rfl, rfl, w1⟩ := open_int Try.underlying3 (hval 1 3 v1 rfl rfl) h1
  have k2 := h2
  have lt2 : ∀ x ∈ p2, x.block < W.heap.size := by obtain ⟨m, hm⟩ := k2; exact DataW.trod_lt m _ _ _ hm
  obtain ⟨b2, l2, c2, rfl⟩ := okWide_slice Try.underlying42 (hval 2 42 v2 rfl rfl)
  obtain ⟨a2, cap2, z2, e2, w2⟩ := open_vals (enc := enc) (w := W) (v := .slice b2 l2 c2) (fuel := h2.choose) (by simpa [Value.cells] using h2.choose_spec)
  rw [e2] at hval k2 h2 hW' hval0 hA0
  have k3 := h3
  have lt3 : ∀ x ∈ p3, x.block < W.heap.size := by obtain ⟨m, hm⟩ := k3; exact DataW.trod_lt m _ _ _ hm
  obtain ⟨u3, rfl, _⟩ := okWide_struct Try.underlying29 (hval 3 29 v3 rfl rfl)
  obtain ⟨k3_, v3_, e3⟩ := fields_pair (enc := enc) (w := W) (cs := u3.toList) (fuel := h3.choose) (by simpa [Value.cells] using h3.choose_spec)
  obtain rfl : u3 = #[.int .i64 k3_, .int .i64 v3_] := by cases u3; simp_all
  clear hA0 hval0
  rw [e2]; refine (walk a0 a1 a2 cap2 z2 k3_ v3_ W w0 w1 w2).mono fun e W' ⟨he, bel⟩ => ?_
  subst he
  exact ⟨_, rfl, _, _, _, [], _, [], hW', trodAll_mk1 (shut_bool Try.underlying4 _), (trodAll_cons_mk (Below.trod laidOut (by kernel_rfl) (of_decide_eq_true (by kernel_rfl)) k0 bel lt0) (trodAll_cons_mk (Below.trod laidOut (by kernel_rfl) (of_decide_eq_true (by kernel_rfl)) k1 bel lt1) (trodAll_cons_mk (Below.trod laidOut (by kernel_rfl) (of_decide_eq_true (by kernel_rfl)) k2 bel lt2) (trodAll_cons_mk (Below.trod laidOut (by kernel_rfl) (of_decide_eq_true (by kernel_rfl)) k3 bel lt3) trodAll_mk0)))), rfl, bel.frame _, fun h => by cases h⟩

theorem over : Rows.nodeRawRow.holds Try.pinned (OpenSpec.ofChange Rows.nodeRawSpec) :=
  OpenClaim.holds_of_wide 4 Try.f4 rfl rfl rfl rfl rfl rfl rfl ⟨rfl, rfl, rfl, rfl, rfl⟩ rfl rfl rfl rfl rfl (by kernel_rfl) Try.func4 (by kernel_rfl)
    (of_decide_eq_true (by kernel_rfl)) (by unfold Func.isWrapper; first | (rw [if_pos (by decide +kernel)]; kernel_rfl) | (rw [if_neg (by decide +kernel)]; exact ⟨rfl, rfl⟩))
    (fun os started H enc _ => lifted os started H enc)

theorem nodeRawHolds : Rows.NodeRawSaid := over
#print axioms nodeRawHolds
end Go.Proofs.Ytpcfnnegialegaa.nodeRaw
