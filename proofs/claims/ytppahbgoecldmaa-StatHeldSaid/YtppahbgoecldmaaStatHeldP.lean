/- StatHeld (P12.1): under any policy, however often (up to 59 times) a leaf is contended: its stat stays within the bounds, from either of them; from 0 it is that many times Cont, held; a stat beyond a bound counts as that bound; and what is none of the three things leaves it as it is. No condition. -/
import Derived.Test.YtppahbgoecldmaaRows
import Derived.Test.YtppahbgoecldmaaStW
import Derived.LoopTactic
import Derived.WalkKit
import Derived.ProofKit
import Derived.OpenShut
import Derived.ChangeOld
import Derived.Below
namespace Go.Proofs.Ytppahbgoecldmaa.statHeld
open Go.ChangeShapes Go.WideShapes Go.ChangeAt Go.RowKit
set_option linter.all false

theorem own : ownKnob Try.prog.godebug = none := by kernel_rfl
theorem laidOut : laidOutB Try.prog = true := by kernel_rfl

theorem wrapU64 (a : Int) : IntKind.u64.wrap a = a % 18446744073709551616 := by first | rfl | simp [IntKind.wrap]
/-- int(uint64(a) % uint64(d)). -/
theorem umod (a d : Int) (h : 0 < d) (h2 : d ≤ 9223372036854775807) : ∃ m : Nat, (m : Int) < d ∧ wrap64 ((IntKind.u64.wrap a).tmod d) = m := by
  have h0 : 0 ≤ a % 18446744073709551616 := Int.emod_nonneg _ (by decide)
  have h1 := Int.emod_nonneg (a % 18446744073709551616) (show d ≠ 0 by omega)
  have h3 := Int.emod_lt_of_pos (a % 18446744073709551616) h
  refine ⟨((a % 18446744073709551616) % d).toNat, by omega, ?_⟩
  rw [wrapU64, Int.tmod_eq_emod_of_nonneg h0]
  unfold wrap64
  omega
theorem hm_far (t c : Int) (h : (0 ≤ c ∧ 0 ≤ t) ∨ (c ≤ 0 ∧ t ≤ 0)) : hm (hm t + c) = hm (t + c) := by unfold hm; omega
theorem af_ones (c u m : Int) (k : Nat) : af c u m 0 (List.replicate k 1) = hm (c * k) := by
  induction k with
  | zero => simp [af]
  | succ k ih =>
    rw [List.replicate_succ']
    have e : af c u m 0 (List.replicate k 1 ++ [1]) = hm (af c u m 0 (List.replicate k 1) + c) := by
      unfold af
      rw [List.foldl_append]
      rfl
    rw [e, ih, hm_far]
    · congr 1
      rw [Int.natCast_succ, Int.mul_add, Int.mul_one]
    · rcases Int.le_total 0 c with h | h
      · exact .inl ⟨h, Int.mul_nonneg h (by omega)⟩
      · exact .inr ⟨h, Int.mul_nonpos_of_nonpos_of_nonneg h (by omega)⟩
theorem mul_bd (c : Int) (k : Nat) (h0 : -100000 ≤ c) (h1 : c ≤ 100000) (hk : k < 60) : -6000000 ≤ c * k ∧ c * k ≤ 6000000 := by
  have : ∀ k : Nat, k < 60 → -100000 * (k : Int) ≤ c * k ∧ c * k ≤ 100000 * k := fun k _ => ⟨Int.mul_le_mul_of_nonneg_right h0 (by omega), Int.mul_le_mul_of_nonneg_right h1 (by omega)⟩
  obtain ⟨a, b⟩ := this k hk
  omega
theorem pl_only {W W' : World} {F : Nat → Prop} {b : Nat} {h l c u m : Int} (H : Pl W b h l c u m) (o : Only F W W') (hF : ¬ F b) : Pl W' b h l c u m := by
  obtain ⟨h0, h1, h2, h3, h4⟩ := H
  exact ⟨o.cell h0 hF, o.cell h1 hF, o.cell h2 hF, o.cell h3 hF, o.cell h4 hF⟩

set_option maxRecDepth 100000 in
set_option maxHeartbeats 12800000 in
theorem walk (h0 l0 c0 u0 m0 : Int) (a1 : Int) (w : World) (w1 : (Lit.int .i64 a1).wf = true) :
    Calls Try.prog 6 #[.agg #[.int .i64 h0, .int .i64 l0, .int .i64 c0, .int .i64 u0, .int .i64 m0], .int .i64 a1] w fun e w' => e = .returned (.bool true) ∧ Below w.heap.size w w' := by
  clear w1
  obtain ⟨x0, x1, x2, x3, x4, HC⟩ : ∃ x0 x1 x2 x3 x4, Hid (Cl h0 l0 c0 u0 m0 x0 x1 x2 x3 x4) := ⟨_, _, _, _, _, Lib.hid ⟨rfl, rfl, rfl, rfl, rfl⟩⟩
  obtain ⟨k, hk, hum⟩ := umod a1 60 (by omega) (by omega)
  have hkn : k < 60 := by omega
  have cU : ∀ n W a c, RI W a c (List.replicate k 1) → Calls Try.prog 13 #[.agg #[.int .i64 h0, .int .i64 l0, .int .i64 c0, .int .i64 u0, .int .i64 m0], .int .i64 n, .slice a k c] W fun e w' => e = .returned (.int .i64 (af x2 x3 x4 n (List.replicate k 1))) ∧ Below W.heap.size W w' := by
    intro n W a c R
    have := after_to h0 l0 c0 u0 m0 x0 x1 x2 x3 x4 n a c _ HC.out W R
    rwa [List.length_replicate] at this
  have cT := cU 1000000
  have cL := cU (-1000000)
  have cO := cU 0
  rw [af_ones] at cO
  obtain ⟨tb0, tb1⟩ := mul_bd x2 k HC.out.bd.c0 HC.out.bd.c1 hkn
  obtain ⟨T, hT⟩ := af_bd x2 x3 x4 1000000 (List.replicate k 1)
  obtain ⟨hL, L⟩ := af_bd x2 x3 x4 (-1000000) (List.replicate k 1)
  generalize af x2 x3 x4 1000000 (List.replicate k 1) = top at cT hT
  generalize af x2 x3 x4 (-1000000) (List.replicate k 1) = low at cL hL
  obtain ⟨t, ht⟩ : ∃ t, x2 * (k : Int) = t := ⟨_, rfl⟩
  rw [ht] at cO tb0 tb1
  have hone0 := HC.out.bd.c0
  have hone1 := HC.out.bd.c1
  have N1 : Hid (∀ W, Calls Try.prog 10 #[.agg #[.int .i64 h0, .int .i64 l0, .int .i64 c0, .int .i64 u0, .int .i64 m0], .int .i64 4611686018427387904, .int .i64 0] W fun e w' => e = .returned (.int .i64 1000000) ∧ Below W.heap.size W w') := Lib.hid fun W => by
    have := next_to h0 l0 c0 u0 m0 x0 x1 x2 x3 x4 4611686018427387904 0 HC.out W
    rwa [show nx x2 x3 x4 4611686018427387904 0 = 1000000 by show hm (hm 4611686018427387904 + 0) = 1000000; decide] at this
  have N2 : Hid (∀ W, Calls Try.prog 10 #[.agg #[.int .i64 h0, .int .i64 l0, .int .i64 c0, .int .i64 u0, .int .i64 m0], .int .i64 (-4611686018427387904), .int .i64 0] W fun e w' => e = .returned (.int .i64 (-1000000)) ∧ Below W.heap.size W w') := Lib.hid fun W => by
    have := next_to h0 l0 c0 u0 m0 x0 x1 x2 x3 x4 (-4611686018427387904) 0 HC.out W
    rwa [show nx x2 x3 x4 (-4611686018427387904) 0 = -1000000 by show hm (hm (-4611686018427387904) + 0) = -1000000; decide] at this
  have N3 : Hid (∀ W, Calls Try.prog 10 #[.agg #[.int .i64 h0, .int .i64 l0, .int .i64 c0, .int .i64 u0, .int .i64 m0], .int .i64 0, .int .i64 1] W fun e w' => e = .returned (.int .i64 x2) ∧ Below W.heap.size W w') := Lib.hid fun W => by
    have := next_to h0 l0 c0 u0 m0 x0 x1 x2 x3 x4 0 1 HC.out W
    rwa [show nx x2 x3 x4 0 1 = x2 by show hm (hm 0 + x2) = x2; unfold hm; omega] at this
  have N4 : Hid (∀ W, Calls Try.prog 10 #[.agg #[.int .i64 h0, .int .i64 l0, .int .i64 c0, .int .i64 u0, .int .i64 m0], .int .i64 x2, .int .i64 77] W fun e w' => e = .returned (.int .i64 x2) ∧ Below W.heap.size W w') := Lib.hid fun W => by
    have := next_to h0 l0 c0 u0 m0 x0 x1 x2 x3 x4 x2 77 HC.out W
    rwa [show nx x2 x3 x4 x2 77 = x2 by show hm (hm x2 + 0) = x2; unfold hm; omega] at this
  have CT := Lib.hid cT
  have CL := Lib.hid cL
  have CO := Lib.hid cO
  have HT := Lib.hid ht
  clear cT cL cO cU ht T L hk
  have hB0 := Lib.hid ((Below.refl w.heap.size w).alloc (Nat.le_refl _) (.cells #[.int .i64 h0, .int .i64 l0, .int .i64 c0, .int .i64 u0, .int .i64 m0] 23))
  have HP0 := Lib.hid (Pl.new w 23 (h := h0) (l := l0) (c := c0) (u := u0) (m := m0))
  go_enter Try.func6, Try.ntmps6
  go_wp2_with (fail)
  rw [hum]
  go_loopw [5, 14] (fun uv iv wr => ∃ (i : Nat) (ac : Option Addr) (cc : Nat), uv = .slice ac i cc ∧ iv = .int .i64 i ∧ i ≤ k ∧ Nums wr (fun j => j ≤ w.heap.size) (.slice ac i cc) (List.replicate i 1) ∧ Pl wr w.heap.size h0 l0 c0 u0 m0 ∧ Below w.heap.size w wr) (fun _ iv _ => k - (intOf iv).toNat)
  case atStart => exact ⟨0, none, 0, rfl, rfl, Nat.zero_le _, Nums.nil _ _, HP0.out, hB0.out⟩
  case round =>
    obtain ⟨i, ac, cc, rfl, rfl, hik, hN, hp, hb⟩ := hrel
    have HP := Lib.hid hp
    have HB := Lib.hid hb
    have HN := Lib.hid hN
    have hlt0 := hp.lt
    have HL0 := Lib.hid hlt0
    clear hb hN hp hlt0
    by_cases hlt : i < k
    · go_wp2_with (at_builtin; refine wpList_nums rfl (.tmp 16) (.tmp 17) rfl (fun j => j ≤ w.heap.size) (.slice ac i cc) (List.replicate i 1) [1] rfl (HN.out.below ((Below.refl _ _).alloc (Nat.le_refl _) _)) (fun j hj => by have := HL0.out; simp only [World.size_alloc]; omega) (.slice (some ⟨wr.heap.size, 0, none⟩) 1 1) rfl (src_one 1) (by simp; omega) (i + 1) (by simp) (List.replicate (i + 1) 1) (by rw [List.replicate_succ']) ?_; intro a6 c6 w6 hm6 hc6 hR6 hO6; have R6 := Lib.hid hR6; have O6 := Lib.hid hO6; clear hR6 hO6; unfold maxLen at hm6)
      go_roundw
      case rel => exact ⟨i + 1, a6, c6, by go_num, by go_num, hlt, R6.out, pl_only (HP.out.past _) O6.out (fun h => h (Nat.le_refl _)), (HB.out.alloc HB.out.size _).trans (O6.out.below (fun i hi => by omega) (HB.out.alloc HB.out.size _).size)⟩
      case measure => simp [intOf]; omega
    · obtain rfl : i = k := by omega
      have HR := Lib.hid HN.out.ri
      clear hum hlt hik
      obtain ⟨p0, p1, p2, p3, p4⟩ := HP.out
      have z1 : decide (1000000 < top) = false := decide_eq_false (by omega)
      have z2 : decide (low < -1000000) = false := decide_eq_false (by omega)
      have hmul : x2 * (i : Int) = t := HT.out
      go_wp2_with (first
        | (go_at_call 13; ((with_reducible refine (CT.out _ _ _ HR.out).mono ?_); rintro e W1 ⟨rfl, h⟩; have HP1 := Lib.hid (HP.out.keep h); have HB1 := Lib.hid (bst HB.out h); have R1 := Lib.hid (RI.below HR.out h); clear h p0 p1 p2 p3 p4; obtain ⟨p0, p1, p2, p3, p4⟩ := HP1.out))
        | (go_at_call 13; ((with_reducible refine (CL.out _ _ _ R1.out).mono ?_); rintro e W2 ⟨rfl, h⟩; have HP2 := Lib.hid (HP1.out.keep h); have HB2 := Lib.hid (bst HB1.out h); have R2 := Lib.hid (RI.below R1.out h); clear h p0 p1 p2 p3 p4; obtain ⟨p0, p1, p2, p3, p4⟩ := HP2.out))
        | (go_at_call 10; ((with_reducible refine (N1.out _).mono ?_); rintro e W3 ⟨rfl, h⟩; have HP3 := Lib.hid (HP2.out.keep h); have HB3 := Lib.hid (bst HB2.out h); have R3 := Lib.hid (RI.below R2.out h); clear h p0 p1 p2 p3 p4; obtain ⟨p0, p1, p2, p3, p4⟩ := HP3.out))
        | (go_at_call 10; ((with_reducible refine (N2.out _).mono ?_); rintro e W4 ⟨rfl, h⟩; have HP4 := Lib.hid (HP3.out.keep h); have HB4 := Lib.hid (bst HB3.out h); have R4 := Lib.hid (RI.below R3.out h); clear h p0 p1 p2 p3 p4; obtain ⟨p0, p1, p2, p3, p4⟩ := HP4.out))
        | (go_at_call 10; ((with_reducible refine (N3.out _).mono ?_); rintro e W5 ⟨rfl, h⟩; have HP5 := Lib.hid (HP4.out.keep h); have HB5 := Lib.hid (bst HB4.out h); have R5 := Lib.hid (RI.below R4.out h); clear h p0 p1 p2 p3 p4; obtain ⟨p0, p1, p2, p3, p4⟩ := HP5.out)))
      have cO := CO.out
      have hT : (1000000 < t ∧ hm t = 1000000) ∨ (¬ 1000000 < t ∧ -1000000 < t ∧ hm t = t) ∨ (¬ 1000000 < t ∧ ¬ -1000000 < t ∧ hm t = -1000000) := by unfold hm; omega
      rcases hT with ⟨t1, ht⟩ | ⟨t1, t2, ht⟩ | ⟨t1, t2, ht⟩
      all_goals
        rw [ht] at cO
        clear ht
        refine (cO _ _ _ R5.out).mono ?_
        clear cO
        rintro e W6 ⟨rfl, h⟩
        have HP6 := Lib.hid (HP5.out.keep h)
        have HB6 := Lib.hid (bst HB5.out h)
        clear h p0 p1 p2 p3 p4
        obtain ⟨p0, p1, p2, p3, p4⟩ := HP6.out
        go_wp2_with (first
          | (go_at_call 10; ((with_reducible refine (N4.out _).mono ?_); rintro e W7 ⟨rfl, h⟩; have HB7 := Lib.hid (bst HB6.out h); clear h))
          | (go_at_call 8; ((with_reducible refine (awake_any _).mono ?_); rintro e W8 ⟨rfl, h⟩; have HB8 := Lib.hid (bst HB7.out h); clear h)))
        go_ret
        exact ⟨rfl, HB8.out⟩

set_option maxRecDepth 100000 in
theorem lifted (os : Os) (started : os.Started) (H : Type) (enc : TypeId × Value → H) :
    ReturnsInHanded {} Try.checked os 6 .any (Rows.statHeldSpec.pre6 enc Try.prog Try.f6 Rows.statHeldRow.domain false) (Rows.statHeldSpec.post enc Try.prog Try.f6 false true false false) := by
  refine returnsInHanded_of_change (C := Try.checked) own started (by kernel_rfl) Try.func6
    (ChangeSpec.witness6 (enc := enc) (C := Try.checked) false ⟨#[], #[.agg #[.int .i64 0, .int .i64 0, .int .i64 0, .int .i64 0, .int .i64 0], .int .i64 0], []⟩ 8 (by kernel_rfl) (by kernel_rfl) (by kernel_rfl) (by kernel_rfl)) ?_
  intro W base args ds gs before hval0 hW hcnd _
  have hval : ∀ (j : Nat) t v, Try.f6.params[j]? = some t → args[j]? = some v → Value.okWide Try.prog W .any base t v := hval0
  have hW' := hW
  obtain ⟨p, q, hA0, hV, rfl, hfz, hnd⟩ := hW
  have hA : DataW.TrodAll enc Try.prog W 0 (fun _ => true) true Try.f6.params.toList args.toList ds p := hA0
  rw [Try.params6] at hA hval
  obtain ⟨v0, vs0, d0, ds0, p0, q0, hargs, rfl, rfl, h0, r0⟩ := trodAll_cons hA
  obtain ⟨v1, vs1, d1, ds1, p1, q1, rfl, rfl, rfl, h1, r1⟩ := trodAll_cons r0
  obtain ⟨rfl, rfl, rfl⟩ := trodAll_nil r1
  obtain rfl : args = #[v0, v1] := by cases args; simp_all
  obtain ⟨rfl, rfl⟩ := trodVars_none hV
  have k0 := h0
  have lt0 : ∀ x ∈ p0, x.block < W.heap.size := by obtain ⟨m, hm⟩ := k0; exact DataW.trod_lt m _ _ _ hm
  obtain ⟨u0, rfl, _⟩ := okWide_struct Try.underlying23 (hval 0 23 v0 rfl rfl)
  obtain ⟨h0_, l0_, c0_, u0_, m0_, e0⟩ := fields_pol (enc := enc) (w := W) (cs := u0.toList) (fuel := h0.choose) (by simpa [Value.cells] using h0.choose_spec)
  obtain rfl : u0 = #[.int .i64 h0_, .int .i64 l0_, .int .i64 c0_, .int .i64 u0_, .int .i64 m0_] := by cases u0; simp_all
  have k1 := h1
  have lt1 : ∀ x ∈ p1, x.block < W.heap.size := by obtain ⟨m, hm⟩ := k1; exact DataW.trod_lt m _ _ _ hm
  obtain ⟨a1, rfl, rfl, rfl, w1⟩ := open_int Try.underlying3 (hval 1 3 v1 rfl rfl) h1
  clear hA0 hval0
  refine (walk h0_ l0_ c0_ u0_ m0_ a1 W w1).mono fun e W' ⟨he, bel⟩ => ?_
  subst he
  exact ⟨_, rfl, _, _, _, [], _, [], hW', trodAll_mk1 (shut_bool Try.underlying4 _), (trodAll_cons_mk (Below.trod laidOut (by kernel_rfl) (of_decide_eq_true (by kernel_rfl)) k0 bel lt0) (trodAll_cons_mk (Below.trod laidOut (by kernel_rfl) (of_decide_eq_true (by kernel_rfl)) k1 bel lt1) trodAll_mk0)), rfl, bel.frame _, fun h => by cases h⟩

theorem over : Rows.statHeldRow.holds Try.pinned (OpenSpec.ofChange Rows.statHeldSpec) :=
  OpenClaim.holds_of_wide 6 Try.f6 rfl rfl rfl rfl rfl rfl rfl ⟨rfl, rfl, rfl, rfl, rfl⟩ rfl rfl rfl rfl rfl (by kernel_rfl) Try.func6 (by kernel_rfl)
    (of_decide_eq_true (by kernel_rfl)) (by unfold Func.isWrapper; first | (rw [if_pos (by decide +kernel)]; kernel_rfl) | (rw [if_neg (by decide +kernel)]; exact ⟨rfl, rfl⟩))
    (fun os started H enc _ => lifted os started H enc)

theorem statHeldHolds : Rows.StatHeldSaid := over
#print axioms statHeldHolds
end Go.Proofs.Ytppahbgoecldmaa.statHeld
