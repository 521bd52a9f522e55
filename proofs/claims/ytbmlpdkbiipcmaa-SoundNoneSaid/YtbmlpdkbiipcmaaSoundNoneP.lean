/- 'osierlaw10.SoundNone' returns true for every two integers and every slice of integers. No condition. -/
import Derived.Test.YtbmlpdkbiipcmaaRows
import Derived.Test.YtbmlpdkbiipcmaaSoA
import Derived.Test.YtbmlpdkbiipcmaaNArgs
import Derived.LoopTactic
import Derived.WalkKit
import Derived.ProofKit
import Derived.OpenShut
import Derived.ChangeOld
import Derived.Below
namespace Go.Proofs.Ytbmlpdkbiipcmaa.soundNone
open Go.ChangeShapes Go.WideShapes Go.ChangeAt Go.RowKit
set_option linter.all false

theorem own : ownKnob Try.prog.godebug = none := by kernel_rfl
theorem laidOut : laidOutB Try.prog = true := by kernel_rfl

theorem wu (a : Int) : IntKind.u64.wrap a = a % 18446744073709551616 := by first | rfl | simp [IntKind.wrap]
theorem kind9 (a : Int) : ∃ K : Int, 2 ≤ K ∧ K ≤ 10 ∧ wrap64 (2 + wrap64 ((IntKind.u64.wrap a).tmod 9)) = K := by
  have h0 : 0 ≤ a % 18446744073709551616 := Int.emod_nonneg _ (by decide)
  refine ⟨2 + (a % 18446744073709551616) % 9, by omega, by omega, ?_⟩
  rw [wu, Int.tmod_eq_emod_of_nonneg h0]
  unfold wrap64
  omega
theorem kind_no (K : Int) (hK : 2 ≤ K) (vs : List Int) (id : Int) : kindL [(K, vs), (0, [1])] id ≠ 1 := by
  intro h
  unfold kindL at h
  cases hx : itemAt [(K, vs), (0, [1])] id with
  | none => rw [hx] at h; simp at h
  | some x =>
    obtain ⟨i, rfl, hi, hlt⟩ := itemAt_some hx
    match i, hlt with
    | 0, _ => rw [hx] at h; simp at hi; subst hi; simp at h; omega
    | 1, _ => rw [hx] at h; simp at hi; subst hi; simp at h
section
variable {w0 w : World} {p : Nat} {room st : Int} {L : List It}
theorem no_may (h : Held w0 w p room st L) (hn : ∀ id, kindL L id ≠ 1) (t : Int) (h0 : t ≠ 0) :
    Calls Try.prog 10 #[.pointer (some ⟨p, 0, none⟩), .int .i64 t] w fun e w' => e = .returned (.bool false) ∧ Held w0 w' p room st L :=
  (tmay h t false (may_none h0 (hn t))).mono fun e w' ⟨he, hb⟩ => ⟨he, h.below hb⟩
theorem no_same1 (h : Held w0 w p room st L) (hn : ∀ id, kindL L id ≠ 1) (t u : Int) (h0 : t ≠ 0) :
    Calls Try.prog 11 #[.pointer (some ⟨p, 0, none⟩), .int .i64 t, .int .i64 u] w fun e w' => e = .returned (.bool false) ∧ Held w0 w' p room st L :=
  (ssame_no1 h.a t u h0 (hn t)).mono fun e w' ⟨he, hb⟩ => ⟨he, h.below hb⟩
theorem no_same2 (h : Held w0 w p room st L) (hn : ∀ id, kindL L id ≠ 1) (u : Int) (h0 : u ≠ 0) :
    Calls Try.prog 11 #[.pointer (some ⟨p, 0, none⟩), .int .i64 0, .int .i64 u] w fun e w' => e = .returned (.bool false) ∧ Held w0 w' p room st L :=
  (ssame_no2 h.a 0 u (.inl rfl) h0 (hn u)).mono fun e w' ⟨he, hb⟩ => ⟨he, h.below hb⟩
theorem yes_same (h : Held w0 w p room st L) :
    Calls Try.prog 11 #[.pointer (some ⟨p, 0, none⟩), .int .i64 0, .int .i64 0] w fun e w' => e = .returned (.bool true) ∧ Held w0 w' p room st L :=
  (tsame h .nil .nil Srt.nil Srt.nil Rng.nil Rng.nil (by decide) (by decide) true (by decide)).mono fun e w' ⟨he, hb⟩ => ⟨he, h.below hb⟩
end

set_option maxRecDepth 100000 in
set_option maxHeartbeats 12800000 in
theorem walk (a0 : Int) (a1 : Int) (a2 : Option Addr) (cap2 : Nat) (z2 : List Int) (w : World) (w0 : (Lit.int .i64 a0).wf = true) (w1 : (Lit.int .i64 a1).wf = true) (w2 : Vals w a2 cap2 z2) :
    Calls Try.prog 6 #[.int .i64 a0, .int .i64 a1, .slice a2 z2.length cap2] w fun e w' => e = .returned (.bool true) ∧ Below w.heap.size w w' := by
  obtain ⟨K, hK1, hK9, hK⟩ := kind9 a1
  have hz2 := w2.1
  have W2 := Lib.hid w2
  clear w2
  unfold maxLen at hz2
  by_cases h12 : 12 < z2.length
  · have h12' : (12 : Int) < (z2.length : Int) := by omega
    clear hK
    go_enter Try.func6, Try.ntmps6
    go_wp2_with (go_at_call 13; ((with_reducible refine (sawake_any _).mono ?_); rintro e W3 ⟨rfl, hb3⟩))
    go_ret
    exact ⟨rfl, hb3⟩
  have h12' : ¬ (12 : Int) < (z2.length : Int) := by omega
  have HN := Lib.hid (kind_no K hK1 z2)
  have HK := Lib.hid (show 1 ≤ K from by omega)
  have HZ := Lib.hid (show z2.length ≤ 12 from by omega)
  clear hK1 hK9
  by_cases e0 : a0 = 0
  · subst e0
    go_enter Try.func6, Try.ntmps6
    go_wp2_with (first
      | (go_at_call 8; have cc := new_held 9 9 w _ (Below.refl _ _) (by decide); ((with_reducible refine cc.mono ?_); clear cc; rintro e W3 ⟨p, rfl, h1⟩))
      | (go_at_call 19; have cc := make_held h1 K z2 _ 1 [(K, z2)] HK.out HZ.out (W2.out.ints h1.b (fun b hb => Nat.not_le_of_lt hb)) (by decide) rfl rfl; ((with_reducible refine cc.mono ?_); clear cc; rintro e W4 ⟨rfl, h2⟩; clear h1))
      | (go_at_call 30; have cc := cell_held h2 1 2 [(K, z2), (0, [1])] (by simp) rfl rfl; ((with_reducible refine cc.mono ?_); clear cc; rintro e W5 ⟨rfl, h3⟩; clear h2))
      | (go_at_call 10; ((with_reducible refine (no_may h3 HN.out 1 (by decide)).mono ?_); rintro e W6 ⟨rfl, h4⟩; clear h3))
      | (go_at_call 10; ((with_reducible refine (no_may h4 HN.out 2 (by decide)).mono ?_); rintro e W7 ⟨rfl, h5⟩; clear h4))
      | (go_at_call 11; ((with_reducible refine (no_same1 h5 HN.out 1 1 (by decide)).mono ?_); rintro e W10 ⟨rfl, h8⟩; clear h5))
      | (go_at_call 11; ((with_reducible refine (no_same2 h8 HN.out 1 (by decide)).mono ?_); rintro e W11 ⟨rfl, h9⟩; clear h8))
      | (go_at_call 11; ((with_reducible refine (yes_same h9).mono ?_); rintro e W12 ⟨rfl, h10⟩; clear h9))
      | (go_at_call 13; ((with_reducible refine (sawake_any _).mono ?_); rintro e W13 ⟨rfl, hb⟩)))
    go_ret
    exact ⟨rfl, h10.b.trans (hb.mono h10.b.size)⟩
  by_cases e1 : a0 = 1
  · subst e1
    go_enter Try.func6, Try.ntmps6
    go_wp2_with (first
      | (go_at_call 8; have cc := new_held 9 9 w _ (Below.refl _ _) (by decide); ((with_reducible refine cc.mono ?_); clear cc; rintro e W3 ⟨p, rfl, h1⟩))
      | (go_at_call 19; have cc := make_held h1 K z2 _ 1 [(K, z2)] HK.out HZ.out (W2.out.ints h1.b (fun b hb => Nat.not_le_of_lt hb)) (by decide) rfl rfl; ((with_reducible refine cc.mono ?_); clear cc; rintro e W4 ⟨rfl, h2⟩; clear h1))
      | (go_at_call 30; have cc := cell_held h2 1 2 [(K, z2), (0, [1])] (by simp) rfl rfl; ((with_reducible refine cc.mono ?_); clear cc; rintro e W5 ⟨rfl, h3⟩; clear h2))
      | (go_at_call 10; ((with_reducible refine (no_may h3 HN.out 1 (by decide)).mono ?_); rintro e W6 ⟨rfl, h4⟩; clear h3))
      | (go_at_call 10; ((with_reducible refine (no_may h4 HN.out 2 (by decide)).mono ?_); rintro e W7 ⟨rfl, h5⟩; clear h4))
      | (go_at_call 11; ((with_reducible refine (no_same1 h5 HN.out 1 1 (by decide)).mono ?_); rintro e W10 ⟨rfl, h8⟩; clear h5))
      | (go_at_call 11; ((with_reducible refine (no_same2 h8 HN.out 1 (by decide)).mono ?_); rintro e W11 ⟨rfl, h9⟩; clear h8))
      | (go_at_call 11; ((with_reducible refine (yes_same h9).mono ?_); rintro e W12 ⟨rfl, h10⟩; clear h9))
      | (go_at_call 13; ((with_reducible refine (sawake_any _).mono ?_); rintro e W13 ⟨rfl, hb⟩)))
    go_ret
    exact ⟨rfl, h10.b.trans (hb.mono h10.b.size)⟩
  by_cases e2 : a0 = 2
  · subst e2
    go_enter Try.func6, Try.ntmps6
    go_wp2_with (first
      | (go_at_call 8; have cc := new_held 9 9 w _ (Below.refl _ _) (by decide); ((with_reducible refine cc.mono ?_); clear cc; rintro e W3 ⟨p, rfl, h1⟩))
      | (go_at_call 19; have cc := make_held h1 K z2 _ 1 [(K, z2)] HK.out HZ.out (W2.out.ints h1.b (fun b hb => Nat.not_le_of_lt hb)) (by decide) rfl rfl; ((with_reducible refine cc.mono ?_); clear cc; rintro e W4 ⟨rfl, h2⟩; clear h1))
      | (go_at_call 30; have cc := cell_held h2 1 2 [(K, z2), (0, [1])] (by simp) rfl rfl; ((with_reducible refine cc.mono ?_); clear cc; rintro e W5 ⟨rfl, h3⟩; clear h2))
      | (go_at_call 10; ((with_reducible refine (no_may h3 HN.out 1 (by decide)).mono ?_); rintro e W6 ⟨rfl, h4⟩; clear h3))
      | (go_at_call 10; ((with_reducible refine (no_may h4 HN.out 2 (by decide)).mono ?_); rintro e W7 ⟨rfl, h5⟩; clear h4))
      | (go_at_call 11; ((with_reducible refine (no_same1 h5 HN.out 1 1 (by decide)).mono ?_); rintro e W10 ⟨rfl, h8⟩; clear h5))
      | (go_at_call 11; ((with_reducible refine (no_same2 h8 HN.out 1 (by decide)).mono ?_); rintro e W11 ⟨rfl, h9⟩; clear h8))
      | (go_at_call 11; ((with_reducible refine (yes_same h9).mono ?_); rintro e W12 ⟨rfl, h10⟩; clear h9))
      | (go_at_call 13; ((with_reducible refine (sawake_any _).mono ?_); rintro e W13 ⟨rfl, hb⟩)))
    go_ret
    exact ⟨rfl, h10.b.trans (hb.mono h10.b.size)⟩
  have N0 := Lib.hid e0
  have f0 : (a0 != 0) = true := by simp [e0]
  have f1 : (a0 != 1) = true := by simp [e1]
  have f2 : (a0 != 2) = true := by simp [e2]
  clear e0 e1 e2
  go_enter Try.func6, Try.ntmps6
  go_wp2_with (first
    | (go_at_call 8; have cc := new_held 9 9 w _ (Below.refl _ _) (by decide); ((with_reducible refine cc.mono ?_); clear cc; rintro e W3 ⟨p, rfl, h1⟩))
    | (go_at_call 19; have cc := make_held h1 K z2 _ 1 [(K, z2)] HK.out HZ.out (W2.out.ints h1.b (fun b hb => Nat.not_le_of_lt hb)) (by decide) rfl rfl; ((with_reducible refine cc.mono ?_); clear cc; rintro e W4 ⟨rfl, h2⟩; clear h1))
    | (go_at_call 30; have cc := cell_held h2 1 2 [(K, z2), (0, [1])] (by simp) rfl rfl; ((with_reducible refine cc.mono ?_); clear cc; rintro e W5 ⟨rfl, h3⟩; clear h2))
    | (go_at_call 10; ((with_reducible refine (no_may h3 HN.out 1 (by decide)).mono ?_); rintro e W6 ⟨rfl, h4⟩; clear h3))
    | (go_at_call 10; ((with_reducible refine (no_may h4 HN.out 2 (by decide)).mono ?_); rintro e W7 ⟨rfl, h5⟩; clear h4))
    | (go_at_call 10; ((with_reducible refine (no_may h5 HN.out a0 N0.out).mono ?_); rintro e W8 ⟨rfl, h6⟩; clear h5))
    | (go_at_call 11; ((with_reducible refine (no_same1 h6 HN.out a0 a0 N0.out).mono ?_); rintro e W9 ⟨rfl, h7⟩; clear h6))
    | (go_at_call 11; ((with_reducible refine (no_same1 h7 HN.out 1 1 (by decide)).mono ?_); rintro e W10 ⟨rfl, h8⟩; clear h7))
    | (go_at_call 11; ((with_reducible refine (no_same2 h8 HN.out 1 (by decide)).mono ?_); rintro e W11 ⟨rfl, h9⟩; clear h8))
    | (go_at_call 11; ((with_reducible refine (yes_same h9).mono ?_); rintro e W12 ⟨rfl, h10⟩; clear h9))
    | (go_at_call 13; ((with_reducible refine (sawake_any _).mono ?_); rintro e W13 ⟨rfl, hb⟩)))
  go_ret
  exact ⟨rfl, h10.b.trans (hb.mono h10.b.size)⟩

set_option maxRecDepth 100000 in
theorem lifted (os : Os) (started : os.Started) (H : Type) (enc : TypeId × Value → H) :
    ReturnsInHanded {} Try.checked os 6 .any (Rows.soundNoneSpec.pre6 enc Try.prog Try.f6 Rows.soundNoneRow.domain false) (Rows.soundNoneSpec.post enc Try.prog Try.f6 false true false false) := by
  refine returnsInHanded_of_change (C := Try.checked) own started (by kernel_rfl) Try.func6
    (ChangeSpec.witness6 (enc := enc) (C := Try.checked) false ⟨#[], #[.int .i64 0, .int .i64 0, .slice none 0 0], []⟩ 8 (by kernel_rfl) (by kernel_rfl) (by kernel_rfl) (by kernel_rfl)) ?_
  intro W base args ds gs before hval0 hW hcnd _
  have hval : ∀ (j : Nat) t v, Try.f6.params[j]? = some t → args[j]? = some v → Value.okWide Try.prog W .any base t v := hval0
  have hW' := hW
  obtain ⟨p, q, hA0, hV, rfl, hfz, hnd⟩ := hW
  have hA : DataW.TrodAll enc Try.prog W 0 (fun _ => true) true Try.f6.params.toList args.toList ds p := hA0
  rw [Try.params6] at hA hval
  obtain ⟨v0, vs0, d0, ds0, p0, q0, hargs, rfl, rfl, h0, r0⟩ := trodAll_cons hA
  obtain ⟨v1, vs1, d1, ds1, p1, q1, rfl, rfl, rfl, h1, r1⟩ := trodAll_cons r0
  obtain ⟨v2, vs2, d2, ds2, p2, q2, rfl, rfl, rfl, h2, r2⟩ := trodAll_cons r1
  obtain ⟨rfl, rfl, rfl⟩ := trodAll_nil r2
  obtain rfl : args = #[v0, v1, v2] := by cases args; simp_all
  obtain ⟨rfl, rfl⟩ := trodVars_none hV
  have k0 := h0
  have lt0 : ∀ x ∈ p0, x.block < W.heap.size := by obtain ⟨m, hm⟩ := k0; exact DataW.trod_lt m _ _ _ hm
  obtain ⟨a0, rfl, rfl, rfl, w0⟩ := open_int Try.underlying3 (hval 0 3 v0 rfl rfl) h0
  have k1 := h1
  have lt1 : ∀ x ∈ p1, x.block < W.heap.size := by obtain ⟨m, hm⟩ := k1; exact DataW.trod_lt m _ _ _ hm
  obtain ⟨a1, rfl, rfl, rfl, w1⟩ := open_int Try.underlying3 (hval 1 3 v1 rfl rfl) h1
  have k2 := h2
  have lt2 : ∀ x ∈ p2, x.block < W.heap.size := by obtain ⟨m, hm⟩ := k2; exact DataW.trod_lt m _ _ _ hm
  obtain ⟨b2, l2, c2, rfl⟩ := okWide_slice Try.underlying61 (hval 2 61 v2 rfl rfl)
  obtain ⟨a2, cap2, z2, e2, w2⟩ := open_vals (enc := enc) (w := W) (v := .slice b2 l2 c2) (fuel := h2.choose) (by simpa [Value.cells] using h2.choose_spec)
  rw [e2] at hval k2 h2 hW' hval0 hA0
  clear hA0 hval0
  rw [e2]; refine (walk a0 a1 a2 cap2 z2 W w0 w1 w2).mono fun e W' ⟨he, bel⟩ => ?_
  subst he
  exact ⟨_, rfl, _, _, _, [], _, [], hW', trodAll_mk1 (shut_bool Try.underlying4 _), (trodAll_cons_mk (Below.trod laidOut (by kernel_rfl) (of_decide_eq_true (by kernel_rfl)) k0 bel lt0) (trodAll_cons_mk (Below.trod laidOut (by kernel_rfl) (of_decide_eq_true (by kernel_rfl)) k1 bel lt1) (trodAll_cons_mk (Below.trod laidOut (by kernel_rfl) (of_decide_eq_true (by kernel_rfl)) k2 bel lt2) trodAll_mk0))), rfl, bel.frame _, fun h => by cases h⟩

theorem over : Rows.soundNoneRow.holds Try.pinned (OpenSpec.ofChange Rows.soundNoneSpec) :=
  OpenClaim.holds_of_wide 6 Try.f6 rfl rfl rfl rfl rfl rfl rfl ⟨rfl, rfl, rfl, rfl, rfl⟩ rfl rfl rfl rfl rfl (by kernel_rfl) Try.func6 (by kernel_rfl)
    (of_decide_eq_true (by kernel_rfl)) (by unfold Func.isWrapper; first | (rw [if_pos (by decide +kernel)]; kernel_rfl) | (rw [if_neg (by decide +kernel)]; exact ⟨rfl, rfl⟩))
    (fun os started H enc _ => lifted os started H enc)

theorem soundNoneHolds : Rows.SoundNoneSaid := over
#print axioms soundNoneHolds
end Go.Proofs.Ytbmlpdkbiipcmaa.soundNone
