/- ModelLasts (P16.1): a map made of up to 80 pairs tells for each key the value of the last pair of that key, and has the same pairs as one into which they are put one by one; as many as it says. No condition. -/
import Derived.Test.YtooengicfjcchaaRows
import Derived.Test.YtooengicfjcchaaMdJ
import Derived.LoopTactic
import Derived.WalkKit
import Derived.ProofKit
import Derived.OpenShut
import Derived.ChangeOld
import Derived.Below
namespace Go.Proofs.Ytooengicfjcchaa.modelLasts
open Go.ChangeShapes Go.WideShapes Go.ChangeAt Go.RowKit
set_option linter.all false

theorem own : ownKnob Try.prog.godebug = none := by kernel_rfl
theorem laidOut : laidOutB Try.prog = true := by kernel_rfl



set_option maxRecDepth 100000 in
set_option maxHeartbeats 12800000 in
theorem walk (a0 : Option Addr) (cap0 : Nat) (z0 : List Pr) (w : World) (w0 : Prs w a0 cap0 z0) :
    Calls Try.prog 6 #[.slice a0 z0.length cap0] w fun e w' => e = .returned (.bool true) ∧ Below w.heap.size w w' := by
  have H0 := Lib.hid w0
  have hc := w0.1
  have hcm := w0.2.1
  unfold maxLen at hcm
  clear w0
  have ca := fun W => awake_any W
  by_cases hbig : 80 < z0.length
  · have hbig' : (80 : Int) < (z0.length : Int) := by omega
    go_enter Try.func6, Try.ntmps6
    go_wp2_with (go_at_call 9; ((with_reducible refine (ca _).mono ?_); rintro e w3 ⟨rfl, hb⟩))
    go_ret
    exact ⟨rfl, hb⟩
  have hbig' : ¬ (80 : Int) < (z0.length : Int) := by omega
  have HL : Hid ((putsL z0).length ≤ 80 ∧ ∀ i, (putsL (z0.take i)).length ≤ 80) := Lib.hid ⟨by have := putsL_len z0; omega, fun i => by have := putsL_tl z0 i; omega⟩
  have HN : Hid (z0.length ≤ 80) := Lib.hid (by omega)
  clear hbig
  have cn := fun W h => new_any a0 cap0 z0 W h (by have := HN.out; omega)
  have cn2 := fun W => new_nil none 0 W (Prs.nil W)
  go_enter Try.func6, Try.ntmps6
  go_wp2_with (fail)
  refine (cn _ H0.out).mono ?_
  rintro e w2 ⟨b1, rfl, hb0, hM, hB⟩
  have HM1 := Lib.hid hM
  have HB1 := Lib.hid hB
  have HB01 := Lib.hid hb0
  clear hb0 hM hB
  go_wp2_with (fail)
  refine (cn2 _).mono ?_
  rintro e w3 ⟨b2, rfl, hb0, hM, hB⟩
  have HM := Lib.hid (M2.new HM1.out HB1.out hM hB HB01.out hb0)
  clear HM1 HB1 HB01 hb0 hM hB cn cn2
  go_wp2_with (fail)
  go_loopw [22] (fun x wr => ∃ i : Nat, x = .int .i64 i ∧ i ≤ z0.length ∧ M2 w b1 b2 (putsL z0) (putsL (z0.take i)) wr) (fun x _ => z0.length - (intOf x).toNat)
  case atStart => exact ⟨0, rfl, Nat.zero_le _, HM.out⟩
  case round =>
    clear HM
    obtain ⟨i, rfl, hi, hM⟩ := hrel
    have HM := Lib.hid hM
    by_cases hlt : i < z0.length
    · obtain ⟨q, hq⟩ : ∃ q, z0[i]? = some q := ⟨_, List.getElem?_eq_getElem hlt⟩
      obtain ⟨ob, oo, rfl, q0, q1⟩ := (H0.out.below hM.bw).2.2.1 i q hq
      have HT := Lib.hid (do_put_is hq)
      clear hq hM
      obtain ⟨x0, x1⟩ := q
      dsimp only at q0 q1 HT
      have hltI : (i : Int) < (z0.length : Int) := by omega
      have cd := (HM.out.below ((Below.refl wr.heap.size wr).alloc (Nat.le_refl _) (.cells #[.int .i64 x0, .int .i64 x1] 28))).do2 1 x0 0 x1 (by have := HL.out.2 i; omega)
      unfold Ad.val at cd
      rw [HT.out] at cd
      go_wp2_with (go_at_call 14; ((with_reducible refine cd.mono ?_); clear cd; rintro e w4 ⟨aa, ca1, rfl, hM4, -, -⟩; have HM4 := Lib.hid hM4; clear hM4))
      go_roundw
      case rel => exact ⟨i + 1, by go_num, hlt, HM4.out⟩
      case measure => simp [intOf]; omega
    · obtain rfl : i = z0.length := by omega
      clear hM
      have hltI : ¬ (z0.length : Int) < (z0.length : Int) := by omega
      rw [List.take_of_length_le (Nat.le_refl _)] at HM
      go_wp2_with (fail)
      go_loopw [36] (fun x wr2 => ∃ i : Nat, x = .int .i64 i ∧ i ≤ z0.length ∧ M2 w b1 b2 (putsL z0) (putsL z0) wr2) (fun x _ => z0.length - (intOf x).toNat)
      case atStart => exact ⟨0, rfl, Nat.zero_le _, HM.out⟩
      case round =>
        clear HM
        obtain ⟨i, rfl, hi2, hM⟩ := hrel
        have HM := Lib.hid hM
        by_cases hlt2 : i < z0.length
        · obtain ⟨q, hq⟩ : ∃ q, z0[i]? = some q := ⟨_, List.getElem?_eq_getElem hlt2⟩
          obtain ⟨ob, oo, rfl, q0, q1⟩ := (H0.out.below hM.bw).2.2.1 i q hq
          have HG := Lib.hid (do_got_is hq)
          clear hq hM
          obtain ⟨x0, x1⟩ := q
          dsimp only at q0 q1 HG
          have hltI2 : (i : Int) < (z0.length : Int) := by omega
          have hi1 : (i : Int) + 1 ≤ (z0.length : Int) := by omega
          have hi0 : (0 : Int) ≤ (i : Int) + 1 := by omega
          have hic : (i : Int) + 1 ≤ (cap0 : Int) := by omega
          have hin : ((i : Int) + 1).toNat = i + 1 := by omega
          have P1 := Lib.hid (Blk.new wr #[.int .i64 x0, .int .i64 x1] 28)
          have HB1 := Lib.hid ((Below.refl wr.heap.size wr).alloc (Nat.le_refl _) (.cells #[.int .i64 x0, .int .i64 x1] 28))
          have p0 := P1.out 0 _ rfl
          have p1 := P1.out 1 _ rfl
          by_cases hcap : cap0 = i + 1
          · have hzl : z0.length = i + 1 := by omega
            have hd : z0.drop (i + 1) = [] := List.drop_eq_nil_of_le (by omega)
            rw [hd] at HG
            have hct : (cap0 = i + 1) = True := eq_true hcap
            have hct2 : ((cap0 : Int) = (i : Int) + 1) = True := eq_true (by omega)
            have hr0 : z0.length - (i + 1) = 0 := by omega
            have hr1 : cap0 - (i + 1) = 0 := by omega
            have hd' := hd
            clear hcap hzl hd hd'
            go_wp2_with (fail)
            refine wp_loop_rounds 1 ?_
            rw [rounds_succ]
            obtain ⟨lst, hlst⟩ : ∃ t, lv x1 x0 [] = t := ⟨_, rfl⟩
            have hx1 : x1 = lst := hlst
            subst hx1
            have cd := (HM.out.below HB1.out).do1 4 x0 0 0 (by have := HL.out.1; omega)
            unfold Ad.val at cd
            rw [HG.out, do_get_is (putsL_srt z0)] at cd
            rw [hlst] at cd
            go_wp2_with (go_at_call 14; ((with_reducible refine cd.mono ?_); clear cd; rintro e w5 ⟨aa, ca1, rfl, hM5, -, -⟩; have HM5 := Lib.hid (hM5.below ((Below.refl w5.heap.size w5).alloc (Nat.le_refl _) (.cells #[.int .i64 0, .bool true, .int .i64 x0, .int .i64 x1, .int .i64 0, .slice aa 0 ca1] 36))); clear hM5))
            go_roundw
            case rel => exact ⟨i + 1, by go_num, hlt2, HM5.out⟩
            case measure => simp [intOf]; omega
          · have hcap' : ¬ (cap0 : Int) = (i : Int) + 1 := by omega
            obtain ⟨r, hr⟩ : ∃ r, z0.length - (i + 1) = r := ⟨_, rfl⟩
            have HDL : Hid ((z0.drop (i + 1)).length = r) := Lib.hid (by rw [List.length_drop]; exact hr)
            go_wp2_with (fail)
            (try rw [hr])
            have hri : i + 1 + r = z0.length := by omega
            clear hr hcap hcap' hic hin hi0 hi1 p0 p1
            have HWS : Hid (wr.heap.size < (wr.alloc (.cells #[.int .i64 x0, .int .i64 x1] 28)).heap.size) := Lib.hid (by simp)
            generalize wr.alloc (.cells #[.int .i64 x0, .int .i64 x1] 28) = W1 at P1 HB1 HWS ⊢
            go_loopw [9, 48] (fun lx y wr3 => ∃ j : Nat, lx = .int .i64 (lv x1 x0 ((z0.drop (i + 1)).take j)) ∧ y = .int .i64 j ∧ j ≤ r ∧ Below W1.heap.size W1 wr3) (fun _ y _ => r - (intOf y).toNat)
            case atStart => exact ⟨0, rfl, rfl, Nat.zero_le _, Below.refl _ _⟩
            case round =>
              obtain ⟨j, rfl, rfl, hj, hb⟩ := hrel
              have HB := Lib.hid hb
              clear hb
              by_cases hjr : j < r
              · obtain ⟨y, hy⟩ : ∃ y, z0[i + 1 + j]? = some y := ⟨_, List.getElem?_eq_getElem (by omega)⟩
                obtain ⟨_, _, e1, c0, c1⟩ := (H0.out.below (bel2 HM.out.bw (bel2 HB1.out HB.out))).2.2.1 _ y hy
                cases e1
                rw [show oo + (i + 1 + j) * 2 = oo + (i + 1) * 2 + j * 2 by omega] at c0 c1
                have HLV := Lib.hid (lv_next (l := z0.drop (i + 1)) (j := j) x1 x0 (by rw [List.getElem?_drop]; exact hy))
                clear hy
                obtain ⟨y0, y1⟩ := y
                dsimp only at c0 c1 HLV
                have hjI : (j : Int) < (r : Int) := by omega
                have PX := (P1.out.keep HB.out).past (.cells #[.int .i64 y0, .int .i64 y1] 28)
                have p0 := PX 0 _ rfl
                have B3 := Lib.hid (bel1 HB.out (.cells #[.int .i64 y0, .int .i64 y1] 28))
                clear PX
                generalize lv x1 x0 ((z0.drop (i + 1)).take j) = lj at *
                by_cases hyx : y0 = x0
                · have hyx' : (y0 == x0) = true := beq_iff_eq.2 hyx
                  rw [if_pos hyx] at HLV
                  clear hyx
                  go_wp2_with (fail)
                  go_roundw
                  case rel => exact ⟨j + 1, by rw [HLV.out], by go_num, hjr, B3.out⟩
                  case measure => simp [intOf]; omega
                · have hyx' : (y0 == x0) = false := beq_eq_false_iff_ne.2 hyx
                  rw [if_neg hyx] at HLV
                  clear hyx
                  go_wp2_with (fail)
                  go_roundw
                  case rel => exact ⟨j + 1, by rw [HLV.out], by go_num, hjr, B3.out⟩
                  case measure => simp [intOf]; omega
              · obtain rfl : j = r := by omega
                have hjI : ¬ (j : Int) < (j : Int) := by omega
                rw [List.take_of_length_le (Nat.le_of_eq HDL.out)]
                have p0 := (P1.out.keep HB.out) 0 _ rfl
                have p1 := (P1.out.keep HB.out) 1 _ rfl
                generalize lv x1 x0 (z0.drop (i + 1)) = lst at *
                have cd := (HM.out.below (bel2 HB1.out HB.out)).do1 4 x0 0 0 (by have := HL.out.1; omega)
                unfold Ad.val at cd
                rw [HG.out, do_get_is (putsL_srt z0)] at cd
                skip
                go_wp2_with (go_at_call 14; ((with_reducible refine cd.mono ?_); clear cd; rintro e w5 ⟨aa, ca1, rfl, hM5, -, -⟩; have HM5 := Lib.hid (hM5.below ((Below.refl w5.heap.size w5).alloc (Nat.le_refl _) (.cells #[.int .i64 0, .bool true, .int .i64 x0, .int .i64 lst, .int .i64 0, .slice aa 0 ca1] 36))); clear hM5))
                go_roundw
                case rel => exact ⟨i + 1, by go_num, hlt2, HM5.out⟩
                case measure => simp [intOf]; omega
        · obtain rfl : i = z0.length := by omega
          clear hM
          have hltI2 : ¬ (z0.length : Int) < (z0.length : Int) := by omega
          have cs := fun W a a' c c' h1 h2 => samep_any a a' c c' (putsL z0) (putsL z0) W h1 h2 true (decide_eq_true rfl)
          have HLL : Hid ((putsL z0).length ≤ 80) := Lib.hid HL.out.1
          generalize putsL z0 = L at *
          go_wp2_with (fail)
          refine (mpairs_any b1 _ L _ HM.out.m1 (by have := HLL.out; omega)).mono ?_
          rintro e v1 ⟨a1, c1, rfl, hR1, hb1⟩
          have HR1 := Lib.hid hR1
          have HV1 := Lib.hid hb1
          clear hR1 hb1
          go_wp2_with (fail)
          refine (mpairs_any b2 _ L _ (HM.out.m2.below HV1.out) (by have := HLL.out; omega)).mono ?_
          rintro e v2 ⟨a2, c2, rfl, hR2, hb2⟩
          have HR2 := Lib.hid hR2
          have HV2 := Lib.hid hb2
          clear hR2 hb2
          go_wp2_with (fail)
          refine (cs _ _ _ _ _ ((HR1.out.prs rfl).below HV2.out) (HR2.out.prs rfl)).mono ?_
          rintro e v3 ⟨rfl, hb3⟩
          have HV3 := Lib.hid (bel2 (bel2 HV1.out HV2.out) hb3)
          clear hb3
          go_wp2_with (fail)
          refine (mlen_any b1 _ L _ (HM.out.m1.below HV3.out)).mono ?_
          rintro e v4 ⟨rfl, rfl⟩
          go_wp2_with (fail)
          refine (mpairs_any b1 _ L _ (HM.out.m1.below HV3.out) (by have := HLL.out; omega)).mono ?_
          rintro e v5 ⟨a5, c5, rfl, hR5, hb5⟩
          have HV5 := Lib.hid (bel2 HV3.out hb5)
          clear hR5 hb5
          go_wp2_with (go_at_call 9; ((with_reducible refine (ca _).mono ?_); rintro e v6 ⟨rfl, hb6⟩))
          go_ret
          exact ⟨rfl, bel2 (bel2 HM.out.bw HV5.out) hb6⟩

set_option maxRecDepth 100000 in
theorem lifted (os : Os) (started : os.Started) (H : Type) (enc : TypeId × Value → H) :
    ReturnsInHanded {} Try.checked os 6 .any (Rows.modelLastsSpec.pre6 enc Try.prog Try.f6 Rows.modelLastsRow.domain false) (Rows.modelLastsSpec.post enc Try.prog Try.f6 false true false false) := by
  refine returnsInHanded_of_change (C := Try.checked) own started (by kernel_rfl) Try.func6
    (ChangeSpec.witness6 (enc := enc) (C := Try.checked) false ⟨#[], #[.slice none 0 0], []⟩ 8 (by kernel_rfl) (by kernel_rfl) (by kernel_rfl) (by kernel_rfl)) ?_
  intro W base args ds gs before hval0 hW hcnd _
  have hval : ∀ (j : Nat) t v, Try.f6.params[j]? = some t → args[j]? = some v → Value.okWide Try.prog W .any base t v := hval0
  have hW' := hW
  obtain ⟨p, q, hA0, hV, rfl, hfz, hnd⟩ := hW
  have hA : DataW.TrodAll enc Try.prog W 0 (fun _ => true) true Try.f6.params.toList args.toList ds p := hA0
  rw [Try.params6] at hA hval
  obtain ⟨v0, vs0, d0, ds0, p0, q0, hargs, rfl, rfl, h0, r0⟩ := trodAll_cons hA
  obtain ⟨rfl, rfl, rfl⟩ := trodAll_nil r0
  obtain rfl : args = #[v0] := by cases args; simp_all
  obtain ⟨rfl, rfl⟩ := trodVars_none hV
  have k0 := h0
  have lt0 : ∀ x ∈ p0, x.block < W.heap.size := by obtain ⟨m, hm⟩ := k0; exact DataW.trod_lt m _ _ _ hm
  obtain ⟨b0, l0, c0, rfl⟩ := okWide_slice Try.underlying22 (hval 0 22 v0 rfl rfl)
  obtain ⟨a0, cap0, z0, e0, w0⟩ := open_pairs (enc := enc) (w := W) (v := .slice b0 l0 c0) (fuel := h0.choose) (by simpa [Value.cells] using h0.choose_spec)
  rw [e0] at hval k0 h0 hW' hval0 hA0
  clear hA0 hval0
  rw [e0]; refine (walk a0 cap0 z0 W w0).mono fun e W' ⟨he, bel⟩ => ?_
  subst he
  exact ⟨_, rfl, _, _, _, [], _, [], hW', trodAll_mk1 (shut_bool Try.underlying4 _), (trodAll_cons_mk (Below.trod laidOut (by kernel_rfl) (of_decide_eq_true (by kernel_rfl)) k0 bel lt0) trodAll_mk0), rfl, bel.frame _, fun h => by cases h⟩

theorem over : Rows.modelLastsRow.holds Try.pinned (OpenSpec.ofChange Rows.modelLastsSpec) :=
  OpenClaim.holds_of_wide 6 Try.f6 rfl rfl rfl rfl rfl rfl rfl ⟨rfl, rfl, rfl, rfl, rfl⟩ rfl rfl rfl rfl rfl (by kernel_rfl) Try.func6 (by kernel_rfl)
    (of_decide_eq_true (by kernel_rfl)) (by unfold Func.isWrapper; first | (rw [if_pos (by decide +kernel)]; kernel_rfl) | (rw [if_neg (by decide +kernel)]; exact ⟨rfl, rfl⟩))
    (fun os started H enc _ => lifted os started H enc)

theorem modelLastsHolds : Rows.ModelLastsSaid := over
#print axioms modelLastsHolds
end Go.Proofs.Ytooengicfjcchaa.modelLasts
