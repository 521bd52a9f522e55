/- LeafEnds (P13.2): of up to 60 pairs whose keys rise, told OMin and OMax and cut by OCut from the front, all come in their order, OMax stays the last one, and then none is left; of any other pairs nothing is asked. No condition. -/
import Derived.Test.YtipcjkfecppanaaRows
import Derived.Test.YtipcjkfecppanaaLfW
import Derived.Test.YtipcjkfecppanaaLfZ
import Derived.LoopTactic
import Derived.WalkKit
import Derived.ProofKit
import Derived.OpenShut
import Derived.ChangeOld
import Derived.Below
namespace Go.Proofs.Ytipcjkfecppanaa.leafEnds
open Go.ChangeShapes Go.WideShapes Go.ChangeAt Go.RowKit
set_option linter.all false

theorem own : ownKnob Try.prog.godebug = none := by kernel_rfl
theorem laidOut : laidOutB Try.prog = true := by kernel_rfl

theorem row_prs2 {W : World} {S : Nat → Prop} {a : Option Addr} {cap : Nat} {l : List Pr} (h : PRow W S (.slice a l.length cap) l) : Prs W a cap l := h.prs rfl
theorem doA7 {l : List Pr} (hs : Srt l) {q : Pr} (hq : l[0]? = some q) : doA l 7 0 0 = ⟨0, true, q.1, q.2, 0, []⟩ := by rw [doA_min hs (by decide) 0 0 rfl, hq]; rfl
theorem doA7n {l : List Pr} (hs : Srt l) (hl : l.length = 0) : doA l 7 0 0 = ⟨0, false, 0, 0, 0, []⟩ := by rw [doA_min hs (by decide) 0 0 rfl, List.getElem?_eq_none (by omega)]; rfl
theorem doA8 {l : List Pr} (hs : Srt l) {q : Pr} (hq : l[l.length - 1]? = some q) : doA l 8 0 0 = ⟨0, true, q.1, q.2, 0, []⟩ := by rw [doA_max hs (by decide) 0 0 rfl, hq]; rfl
theorem doP3 {l : List Pr} (hs : Srt l) {n : Nat} {q : Pr} (hq : l[n]? = some q) : doP (l.drop n) 3 q.1 0 = l.drop (n + 1) := by
  rw [doP_cut (hs.drop n) (by decide) q.1 0 rfl]
  have e : l.drop n = q :: l.drop (n + 1) := by
    obtain ⟨hlt, he⟩ := List.getElem?_eq_some_iff.1 hq
    rw [← he, List.getElem_cons_drop]
  have h2 := hs.drop n
  rw [e] at h2 ⊢
  have h3 := (List.pairwise_cons.1 h2).1
  unfold cutL
  rw [List.filter_cons_of_neg (by simp)]
  exact List.filter_eq_self.2 (fun z hz => by have := h3 z hz; simp; omega)
/-- leaf.Do, the least of a sorted row. -/
theorem c7 {W : World} {a : Option Addr} {cap : Nat} {l : List Pr} (h : Prs W a cap l) (hs : Srt l) (hl : l.length ≤ 60) {q : Pr} (hq : l[0]? = some q) (n : Nat) (hn : n = l.length) :
    Calls Try.prog 9 #[.slice a n cap, .agg #[.int .i64 7, .int .i64 0, .int .i64 0, .int .i64 0]] W fun e w' => ∃ ao cp aa ca, e = .returned (.tuple #[.slice ao n cp, .agg #[.int .i64 0, .bool true, .int .i64 q.1, .int .i64 q.2, .int .i64 0, .slice aa 0 ca]]) ∧ Below W.heap.size W w' := by
  subst hn
  have c := ldo_any a cap l 7 0 0 0 W h (by omega)
  rw [doP_read hs (by decide) 0 0 (by decide), doA7 hs hq] at c
  exact c.mono (fun e w' hh => by obtain ⟨ao, cp, aa, ca, rfl, _, _, h3⟩ := hh; exact ⟨ao, cp, aa, ca, rfl, h3⟩)
theorem c7n {W : World} {a : Option Addr} {cap : Nat} {l : List Pr} (h : Prs W a cap l) (hs : Srt l) (hl : l.length = 0) (n : Nat) (hn : n = l.length) :
    Calls Try.prog 9 #[.slice a n cap, .agg #[.int .i64 7, .int .i64 0, .int .i64 0, .int .i64 0]] W fun e w' => ∃ ao cp aa ca, e = .returned (.tuple #[.slice ao n cp, .agg #[.int .i64 0, .bool false, .int .i64 0, .int .i64 0, .int .i64 0, .slice aa 0 ca]]) ∧ Below W.heap.size W w' := by
  subst hn
  have c := ldo_any a cap l 7 0 0 0 W h (by omega)
  rw [doP_read hs (by decide) 0 0 (by decide), doA7n hs hl] at c
  exact c.mono (fun e w' hh => by obtain ⟨ao, cp, aa, ca, rfl, _, _, h3⟩ := hh; exact ⟨ao, cp, aa, ca, rfl, h3⟩)
theorem c8 {W : World} {a : Option Addr} {cap : Nat} {l : List Pr} (h : Prs W a cap l) (hs : Srt l) (hl : l.length ≤ 60) {q : Pr} (hq : l[l.length - 1]? = some q) (n : Nat) (hn : n = l.length) :
    Calls Try.prog 9 #[.slice a n cap, .agg #[.int .i64 8, .int .i64 0, .int .i64 0, .int .i64 0]] W fun e w' => ∃ ao cp aa ca, e = .returned (.tuple #[.slice ao n cp, .agg #[.int .i64 0, .bool true, .int .i64 q.1, .int .i64 q.2, .int .i64 0, .slice aa 0 ca]]) ∧ Below W.heap.size W w' := by
  subst hn
  have c := ldo_any a cap l 8 0 0 0 W h (by omega)
  rw [doP_read hs (by decide) 0 0 (by decide), doA8 hs hq] at c
  exact c.mono (fun e w' hh => by obtain ⟨ao, cp, aa, ca, rfl, _, _, h3⟩ := hh; exact ⟨ao, cp, aa, ca, rfl, h3⟩)
theorem c3 {W : World} {a : Option Addr} {cap : Nat} {l : List Pr} {i : Nat} (h : Prs W a cap (l.drop i)) (hs : Srt l) (hl : l.length ≤ 60) {q : Pr} (hq : l[i]? = some q) (n : Nat) (hn : n = (l.drop i).length) :
    Calls Try.prog 9 #[.slice a n cap, .agg #[.int .i64 3, .int .i64 q.1, .int .i64 0, .int .i64 0]] W fun e w' => ∃ ao cp x, e = .returned (.tuple #[.slice ao (l.drop (i + 1)).length cp, x]) ∧ Prs w' ao cp (l.drop (i + 1)) ∧ Below W.heap.size W w' := by
  subst hn
  have c := ldo_any a cap (l.drop i) 3 q.1 0 0 W h (by rw [List.length_drop]; omega)
  rw [doP3 hs hq] at c
  exact c.mono (fun e w' hh => by obtain ⟨ao, cp, aa, ca, rfl, h1, _, h3⟩ := hh; exact ⟨ao, cp, _, rfl, row_prs2 h1, h3⟩)
theorem Below.drewN {B : Nat} {a w : World} (h : Below B a w) (n : Nat) : Below B a (w.drewN n) := below_drewN h n
theorem drop_last {l : List Pr} {i : Nat} {q : Pr} (hi : i < l.length) (hq : l[l.length - 1]? = some q) : (l.drop i)[(l.drop i).length - 1]? = some q := by
  rw [List.getElem?_drop, List.length_drop, show i + (l.length - i - 1) = l.length - 1 by omega]; exact hq

set_option maxRecDepth 100000 in
set_option maxHeartbeats 12800000 in
theorem walk (a0 : Option Addr) (cap0 : Nat) (z0 : List Pr) (w : World) (w0 : Prs w a0 cap0 z0) :
    Calls Try.prog 7 #[.slice a0 z0.length cap0] w fun e w' => e = .returned (.bool true) ∧ Below w.heap.size w w' := by
  have H0 := Lib.hid w0
  have hc := w0.1
  have hcm := w0.2.1
  unfold maxLen at hcm
  clear w0
  have ca := fun W => awake_any W
  by_cases hbig : 60 < z0.length
  · have hbig' : (60 : Int) < (z0.length : Int) := by omega
    go_enter Try.func7, Try.ntmps7
    go_wp2_with (go_at_call 8; ((with_reducible refine (ca _).mono ?_); rintro e w3 ⟨rfl, hb⟩))
    go_ret
    exact ⟨rfl, hb⟩
  have hbig' : ¬ (60 : Int) < (z0.length : Int) := by omega
  have hl : z0.length ≤ 60 := by omega
  have cm := fun W h => rmay_any a0 cap0 z0 W h _ rfl
  by_cases hs : Srt z0
  rotate_left
  · rw [decide_eq_false hs] at cm
    go_enter Try.func7, Try.ntmps7
    go_wp2_with (first
      | (go_at_call 14; ((with_reducible refine (cm _ H0.out).mono ?_); rintro e w1 ⟨rfl, hb1⟩))
      | (go_at_call 8; ((with_reducible refine (ca _).mono ?_); rintro e w3 ⟨rfl, hb⟩)))
    go_ret
    exact ⟨rfl, bel2 hb1 hb⟩
  rw [decide_eq_true hs] at cm
  have HS := Lib.hid hs
  have HL := Lib.hid hl
  clear hbig hs hl
  go_enter Try.func7, Try.ntmps7
  go_wp2_with (go_at_call 14; ((with_reducible refine (cm _ H0.out).mono ?_); clear cm; rintro e w1 ⟨rfl, hb1⟩))
  go_loopw [3, 23] (fun m i wr => ∃ (n : Nat) (ao : Option Addr) (cp k : Nat), n ≤ z0.length ∧ i = .int .i64 n ∧ m = .slice ao k cp ∧ k = (z0.drop n).length ∧ Prs wr ao cp (z0.drop n) ∧ Below w.heap.size w wr) (fun _ i _ => z0.length - (intOf i).toNat)
  case atStart => exact ⟨0, a0, cap0, _, Nat.zero_le _, rfl, rfl, by rw [List.drop_zero], by rw [List.drop_zero]; exact H0.out.below hb1, hb1⟩
  case round =>
    obtain ⟨n, ao, cp, k, hn, rfl, rfl, hk, hP, hb⟩ := hrel
    have HP := Lib.hid hP
    have HB := Lib.hid hb
    have HK := Lib.hid hk
    clear hP hb hk hb1
    by_cases hlt : n < z0.length
    · obtain ⟨q, hq⟩ : ∃ q, z0[n]? = some q := ⟨_, List.getElem?_eq_getElem hlt⟩
      obtain ⟨r, hr⟩ : ∃ r, z0[z0.length - 1]? = some r := ⟨_, List.getElem?_eq_getElem (by omega)⟩
      have hq0 : (z0.drop n)[0]? = some q := by rw [List.getElem?_drop, Nat.add_zero]; exact hq
      have k7 := fun W h => c7 (W := W) (a := ao) (cap := cp) (l := z0.drop n) h (HS.out.drop n) (by rw [List.length_drop]; have := HL.out; omega) hq0 k HK.out
      have k8 := fun W h => c8 (W := W) (a := ao) (cap := cp) (l := z0.drop n) h (HS.out.drop n) (by rw [List.length_drop]; have := HL.out; omega) (drop_last hlt hr) k HK.out
      have k3 := fun W h => c3 (W := W) (a := ao) (cap := cp) (l := z0) (i := n) h HS.out HL.out hq k HK.out
      obtain ⟨pb, po, rfl, e0, e1⟩ := H0.out.2.2.1 n q hq
      obtain ⟨pb', po', e, e2, e3⟩ := H0.out.2.2.1 (z0.length - 1) r hr
      cases e
      obtain ⟨q0, q1⟩ := q
      obtain ⟨r0, r1⟩ := r
      dsimp only at e0 e1 e2 e3 k7 k8 k3
      have HE := Lib.hid (And.intro e0 (And.intro e1 (And.intro e2 e3)))
      have hn0 : (0 : Int) ≤ (n : Int) := by omega
      have hn1 : (n : Int) < (z0.length : Int) := by omega
      have hz0 : (0 : Int) < (z0.length : Int) := by omega
      have HLT := Lib.hid hlt
      clear hq hr hq0 e0 e1 e2 e3 hlt
      go_wp2_with (fail)
      refine (k7 _ HP.out).mono ?_
      clear k7
      rintro e w2 ⟨ao2, cp2, aa2, ca2, rfl, hb2⟩
      have b2 : Below wr.heap.size wr (w2.alloc (.cells #[.int .i64 0, .bool true, .int .i64 q0, .int .i64 q1, .int .i64 0, .slice aa2 0 ca2] 29)) := bel1 hb2 _
      have B2 := Lib.hid b2
      have Y := Lib.hid (Blk.new w2 #[.int .i64 0, .bool true, .int .i64 q0, .int .i64 q1, .int .i64 0, .slice aa2 0 ca2] 29)
      clear hb2 b2
      go_wp2_with (fail)
      refine (k8 _ (HP.out.below B2.out)).mono ?_
      clear k8
      rintro e w3 ⟨ao3, cp3, aa3, ca3, rfl, hb3⟩
      have B3 := Lib.hid (bel1 (bel2 B2.out hb3) (.cells #[.int .i64 0, .bool true, .int .i64 r0, .int .i64 r1, .int .i64 0, .slice aa3 0 ca3] 29))
      have Y2 := Lib.hid ((Y.out.keep hb3).past (.cells #[.int .i64 0, .bool true, .int .i64 r0, .int .i64 r1, .int .i64 0, .slice aa3 0 ca3] 29))
      have Z2 := Lib.hid (Blk.new w3 #[.int .i64 0, .bool true, .int .i64 r0, .int .i64 r1, .int .i64 0, .slice aa3 0 ca3] 29)
      clear hb3
      go_wp2_with (fail)
      generalize (w3.alloc (.cells #[.int .i64 0, .bool true, .int .i64 r0, .int .i64 r1, .int .i64 0, .slice aa3 0 ca3] 29) : World) = w4 at *
      have y1 := Y2.out 1 _ rfl
      have y2 := Y2.out 2 _ rfl
      have y3 := Y2.out 3 _ rfl
      have v1 := Z2.out 1 _ rfl
      have v2 := Z2.out 2 _ rfl
      have v3 := Z2.out 3 _ rfl
      have f0 := cell_keep HE.out.1 (bel2 HB.out B3.out)
      have f1 := cell_keep HE.out.2.1 (bel2 HB.out B3.out)
      have f2 := cell_keep HE.out.2.2.1 (bel2 HB.out B3.out)
      have f3 := cell_keep HE.out.2.2.2 (bel2 HB.out B3.out)
      go_quiet (fail)
      go_wp2_with (fail)
      refine (k3 _ (HP.out.below (Below.drewN B3.out _))).mono ?_
      rintro e w5 ⟨ao5, cp5, x5, rfl, hP5, hb5⟩
      have B5 := Lib.hid (bel2 (bel2 HB.out (Below.drewN B3.out _)) hb5)
      have HP5 := Lib.hid hP5
      clear hP5 hb5
      go_wp2_with (fail)
      go_roundw
      case rel => exact ⟨n + 1, ao5, cp5, _, HLT.out, by go_num, rfl, by rw [List.length_drop], HP5.out, B5.out⟩
      case measure => have := HLT.out; simp [intOf]; omega
    · obtain rfl : n = z0.length := by omega
      rw [List.drop_length] at HP HK
      obtain rfl : k = 0 := HK.out
      have k7 := fun W h => c7n (W := W) (a := ao) (cap := cp) (l := []) h Srt.nil rfl 0 rfl
      go_wp2_with (fail)
      refine (k7 _ HP.out).mono ?_
      rintro e w2 ⟨ao2, cp2, aa2, ca2, rfl, hb2⟩
      have B2 := Lib.hid (bel1 (bel2 HB.out hb2) (.cells #[.int .i64 0, .bool false, .int .i64 0, .int .i64 0, .int .i64 0, .slice aa2 0 ca2] 29))
      go_wp2_with (go_at_call 8; ((with_reducible refine (ca _).mono ?_); rintro e w3 ⟨rfl, hb⟩))
      go_ret
      exact ⟨rfl, bel2 B2.out hb⟩

set_option maxRecDepth 100000 in
theorem lifted (os : Os) (started : os.Started) (H : Type) (enc : TypeId × Value → H) :
    ReturnsInHanded {} Try.checked os 7 .any (Rows.leafEndsSpec.pre6 enc Try.prog Try.f7 Rows.leafEndsRow.domain false) (Rows.leafEndsSpec.post enc Try.prog Try.f7 false true false false) := by
  refine returnsInHanded_of_change (C := Try.checked) own started (by kernel_rfl) Try.func7
    (ChangeSpec.witness6 (enc := enc) (C := Try.checked) false ⟨#[], #[.slice none 0 0], []⟩ 8 (by kernel_rfl) (by kernel_rfl) (by kernel_rfl) (by kernel_rfl)) ?_
  intro W base args ds gs before hval0 hW hcnd _
  have hval : ∀ (j : Nat) t v, Try.f7.params[j]? = some t → args[j]? = some v → Value.okWide Try.prog W .any base t v := hval0
  have hW' := hW
  obtain ⟨p, q, hA0, hV, rfl, hfz, hnd⟩ := hW
  have hA : DataW.TrodAll enc Try.prog W 0 (fun _ => true) true Try.f7.params.toList args.toList ds p := hA0
  rw [Try.params7] at hA hval
  obtain ⟨v0, vs0, d0, ds0, p0, q0, hargs, rfl, rfl, h0, r0⟩ := trodAll_cons hA
  obtain ⟨rfl, rfl, rfl⟩ := trodAll_nil r0
  obtain rfl : args = #[v0] := by cases args; simp_all
  obtain ⟨rfl, rfl⟩ := trodVars_none hV
  have k0 := h0
  have lt0 : ∀ x ∈ p0, x.block < W.heap.size := by obtain ⟨m, hm⟩ := k0; exact DataW.trod_lt m _ _ _ hm
  obtain ⟨b0, l0, c0, rfl⟩ := okWide_slice Try.underlying22 (hval 0 22 v0 rfl rfl)
  obtain ⟨a0, cap0, z0, e0, w0⟩ := open_pairs (enc := enc) (w := W) (v := .slice b0 l0 c0) (fuel := h0.choose) (by simpa [Value.cells] using h0.choose_spec)
  rw [e0] at hval k0 h0 hW' hval0 hA0
  clear hA0 hval0
  rw [e0]; refine (walk a0 cap0 z0 W w0).mono fun e W' ⟨he, bel⟩ => ?_
  subst he
  exact ⟨_, rfl, _, _, _, [], _, [], hW', trodAll_mk1 (shut_bool Try.underlying4 _), (trodAll_cons_mk (Below.trod laidOut (by kernel_rfl) (of_decide_eq_true (by kernel_rfl)) k0 bel lt0) trodAll_mk0), rfl, bel.frame _, fun h => by cases h⟩

theorem over : Rows.leafEndsRow.holds Try.pinned (OpenSpec.ofChange Rows.leafEndsSpec) :=
  OpenClaim.holds_of_wide 7 Try.f7 rfl rfl rfl rfl rfl rfl rfl ⟨rfl, rfl, rfl, rfl, rfl⟩ rfl rfl rfl rfl rfl (by kernel_rfl) Try.func7 (by kernel_rfl)
    (of_decide_eq_true (by kernel_rfl)) (by unfold Func.isWrapper; first | (rw [if_pos (by decide +kernel)]; kernel_rfl) | (rw [if_neg (by decide +kernel)]; exact ⟨rfl, rfl⟩))
    (fun os started H enc _ => lifted os started H enc)

theorem leafEndsHolds : Rows.LeafEndsSaid := over
#print axioms leafEndsHolds
end Go.Proofs.Ytipcjkfecppanaa.leafEnds
