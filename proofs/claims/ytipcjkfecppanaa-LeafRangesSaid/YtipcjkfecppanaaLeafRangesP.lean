/- LeafRanges (P13.2): on up to 200 pairs whose keys rise, OCount tells how many pairs ORange tells, two ranges side by side are one, and OMin and OMax of a range are its first pair and its last. No condition. -/
import Derived.Test.YtipcjkfecppanaaRows
import Derived.Test.YtipcjkfecppanaaLfW
import Derived.Test.YtipcjkfecppanaaLfZ
import Derived.Test.YtipcjkfecppanaaLfN
import Derived.Deep.RegionHeld3
import Derived.LoopTactic
import Derived.WalkKit
import Derived.ProofKit
import Derived.OpenShut
import Derived.ChangeOld
import Derived.Below
namespace Go.Proofs.Ytipcjkfecppanaa.leafRanges
open Go.ChangeShapes Go.WideShapes Go.ChangeAt Go.RowKit
set_option linter.all false

theorem own : ownKnob Try.prog.godebug = none := by kernel_rfl
theorem laidOut : laidOutB Try.prog = true := by kernel_rfl

theorem rng_sp {l : List Pr} (hs : Srt l) {lo mid hi : Int} (h1 : lo ≤ mid) (h2 : mid ≤ hi) : rngL l lo (mid - 1) ++ rngL l mid hi = rngL l lo hi := by
  induction l with
  | nil => rfl
  | cons q l ih =>
    have hl : Srt l := (List.pairwise_cons.1 hs).2
    have hq := (List.pairwise_cons.1 hs).1
    by_cases ha : lo ≤ q.1 ∧ q.1 ≤ mid - 1
    · rw [rngL_in ha.1 ha.2, rngL_out (q := q) (lo := mid) (by omega), rngL_in (q := q) (lo := lo) (hi := hi) ha.1 (by omega), List.cons_append, ih hl]
    · by_cases hb : mid ≤ q.1 ∧ q.1 ≤ hi
      · have e : rngL l lo (mid - 1) = [] := rngL_none (fun z hz hc => by have := hq z hz; omega)
        have ih2 := ih hl
        rw [e, List.nil_append] at ih2
        rw [rngL_out (q := q) (lo := lo) (hi := mid - 1) ha, e, List.nil_append, rngL_in (q := q) (lo := mid) hb.1 hb.2, rngL_in (q := q) (lo := lo) (hi := hi) (by omega) hb.2, ih2]
      · rw [rngL_out ha, rngL_out hb, rngL_out (q := q) (lo := lo) (hi := hi) (by omega), ih hl]
theorem r5 {W : World} {a : Option Addr} {cap : Nat} {l R : List Pr} (h : Prs W a cap l) (hs : Srt l) (hl : l.length ≤ 200) (k i : Int) (hR : rngL l k i = R) :
    Calls Try.prog 9 #[.slice a l.length cap, .agg #[.int .i64 5, .int .i64 k, .int .i64 i, .int .i64 0]] W fun e w' => ∃ ao cp aa ca, e = .returned (.tuple #[.slice ao l.length cp, .agg #[.int .i64 0, .bool false, .int .i64 0, .int .i64 0, .int .i64 (R.length : Int), .slice aa R.length ca]]) ∧ Prs w' aa ca R ∧ Below W.heap.size W w' := by
  have c := ldo_any a cap l 5 k i 0 W h (by omega)
  rw [doP_read hs (by decide) k 0 (by decide), doA_rng hs (by decide) k i rfl, hR] at c
  exact c.mono (fun e w' hh => by obtain ⟨ao, cp, aa, ca, rfl, _, h2, h3⟩ := hh; exact ⟨ao, cp, aa, ca, rfl, h2.prs rfl, h3⟩)
theorem r6 {W : World} {a : Option Addr} {cap : Nat} {l R : List Pr} (h : Prs W a cap l) (hs : Srt l) (hl : l.length ≤ 200) (k i : Int) (hR : rngL l k i = R) :
    Calls Try.prog 9 #[.slice a l.length cap, .agg #[.int .i64 6, .int .i64 k, .int .i64 i, .int .i64 0]] W fun e w' => ∃ ao cp aa ca, e = .returned (.tuple #[.slice ao l.length cp, .agg #[.int .i64 0, .bool false, .int .i64 0, .int .i64 0, .int .i64 (R.length : Int), .slice aa 0 ca]]) ∧ Below W.heap.size W w' := by
  have c := ldo_any a cap l 6 k i 0 W h (by omega)
  rw [doP_read hs (by decide) k 0 (by decide), doA_cnt hs (by decide) k i rfl, hR] at c
  exact c.mono (fun e w' hh => by obtain ⟨ao, cp, aa, ca, rfl, _, h2, h3⟩ := hh; exact ⟨ao, cp, aa, ca, rfl, h3⟩)
/-- The least, the greatest of a row: what each tells. -/
def endD (o : Option Pr) : Bool × Int × Int := match o with | none => (false, 0, 0) | some q => (true, q.1, q.2)
theorem r78 {W : World} {a : Option Addr} {cap : Nat} {l : List Pr} (h : Prs W a cap l) (hs : Srt l) (hl : l.length ≤ 200) {c : Int} {o : Option Pr} {x0 : Bool} {x1 x2 : Int} (hc : (c = 7 ∧ l[0]? = o) ∨ (c = 8 ∧ l[l.length - 1]? = o)) (hx : endD o = (x0, x1, x2)) :
    Calls Try.prog 9 #[.slice a l.length cap, .agg #[.int .i64 c, .int .i64 0, .int .i64 0, .int .i64 0]] W fun e w' => ∃ ao cp aa ca, e = .returned (.tuple #[.slice ao l.length cp, .agg #[.int .i64 0, .bool x0, .int .i64 x1, .int .i64 x2, .int .i64 0, .slice aa 0 ca]]) ∧ Below W.heap.size W w' := by
  have c' := ldo_any a cap l c 0 0 0 W h (by omega)
  have e : doA l c 0 0 = ⟨0, x0, x1, x2, 0, []⟩ := by
    rcases hc with ⟨rfl, e⟩ | ⟨rfl, e⟩
    · rw [doA_min hs (by decide) 0 0 rfl, e]
      cases o <;> (simp only [endD, Prod.mk.injEq] at hx; obtain ⟨rfl, rfl, rfl⟩ := hx; rfl)
    · rw [doA_max hs (by decide) 0 0 rfl, e]
      cases o <;> (simp only [endD, Prod.mk.injEq] at hx; obtain ⟨rfl, rfl, rfl⟩ := hx; rfl)
  have ho : okOp c := by rcases hc with ⟨rfl, _⟩ | ⟨rfl, _⟩ <;> decide
  rw [doP_read hs ho 0 0 (by rcases hc with ⟨rfl, _⟩ | ⟨rfl, _⟩ <;> decide), e] at c'
  exact c'.mono (fun e w' hh => by obtain ⟨ao, cp, aa, ca, rfl, _, h2, h3⟩ := hh; exact ⟨ao, cp, aa, ca, rfl, h3⟩)
theorem rs_keep10 {W8 W W' : World} {q0 q1 q2 q3 q4 q5 q6 q7 q8 q9 : Addr} {u0 u1 u2 u3 u4 u5 u6 u7 u8 u9 : Value} (h : W.cell? q0 = some u0 ∧ W.cell? q1 = some u1 ∧ W.cell? q2 = some u2 ∧ W.cell? q3 = some u3 ∧ W.cell? q4 = some u4 ∧ W.cell? q5 = some u5 ∧ W.cell? q6 = some u6 ∧ W.cell? q7 = some u7 ∧ W.cell? q8 = some u8 ∧ W.cell? q9 = some u9 ∧ Below W8.heap.size W8 W) (hb : Below W.heap.size W W') : W'.cell? q0 = some u0 ∧ W'.cell? q1 = some u1 ∧ W'.cell? q2 = some u2 ∧ W'.cell? q3 = some u3 ∧ W'.cell? q4 = some u4 ∧ W'.cell? q5 = some u5 ∧ W'.cell? q6 = some u6 ∧ W'.cell? q7 = some u7 ∧ W'.cell? q8 = some u8 ∧ W'.cell? q9 = some u9 ∧ Below W8.heap.size W8 W' := by
  obtain ⟨h0, h1, h2, h3, h4, h5, h6, h7, h8, h9, hB⟩ := h
  exact ⟨cell_keep h0 hb, cell_keep h1 hb, cell_keep h2 hb, cell_keep h3 hb, cell_keep h4 hb, cell_keep h5 hb, cell_keep h6 hb, cell_keep h7 hb, cell_keep h8 hb, cell_keep h9 hb, hB.trans (hb.mono hB.size)⟩
theorem rs_b10 {W8 W : World} {q0 q1 q2 q3 q4 q5 q6 q7 q8 q9 : Addr} {u0 u1 u2 u3 u4 u5 u6 u7 u8 u9 : Value} (h : W.cell? q0 = some u0 ∧ W.cell? q1 = some u1 ∧ W.cell? q2 = some u2 ∧ W.cell? q3 = some u3 ∧ W.cell? q4 = some u4 ∧ W.cell? q5 = some u5 ∧ W.cell? q6 = some u6 ∧ W.cell? q7 = some u7 ∧ W.cell? q8 = some u8 ∧ W.cell? q9 = some u9 ∧ Below W8.heap.size W8 W) : Below W8.heap.size W8 W := by
  obtain ⟨h0, h1, h2, h3, h4, h5, h6, h7, h8, h9, hB⟩ := h
  exact hB
theorem rs_keep14 {W8 W W' : World} {q0 q1 q2 q3 q4 q5 q6 q7 q8 q9 q10 q11 q12 q13 : Addr} {u0 u1 u2 u3 u4 u5 u6 u7 u8 u9 u10 u11 u12 u13 : Value} (h : W.cell? q0 = some u0 ∧ W.cell? q1 = some u1 ∧ W.cell? q2 = some u2 ∧ W.cell? q3 = some u3 ∧ W.cell? q4 = some u4 ∧ W.cell? q5 = some u5 ∧ W.cell? q6 = some u6 ∧ W.cell? q7 = some u7 ∧ W.cell? q8 = some u8 ∧ W.cell? q9 = some u9 ∧ W.cell? q10 = some u10 ∧ W.cell? q11 = some u11 ∧ W.cell? q12 = some u12 ∧ W.cell? q13 = some u13 ∧ Below W8.heap.size W8 W) (hb : Below W.heap.size W W') : W'.cell? q0 = some u0 ∧ W'.cell? q1 = some u1 ∧ W'.cell? q2 = some u2 ∧ W'.cell? q3 = some u3 ∧ W'.cell? q4 = some u4 ∧ W'.cell? q5 = some u5 ∧ W'.cell? q6 = some u6 ∧ W'.cell? q7 = some u7 ∧ W'.cell? q8 = some u8 ∧ W'.cell? q9 = some u9 ∧ W'.cell? q10 = some u10 ∧ W'.cell? q11 = some u11 ∧ W'.cell? q12 = some u12 ∧ W'.cell? q13 = some u13 ∧ Below W8.heap.size W8 W' := by
  obtain ⟨h0, h1, h2, h3, h4, h5, h6, h7, h8, h9, h10, h11, h12, h13, hB⟩ := h
  exact ⟨cell_keep h0 hb, cell_keep h1 hb, cell_keep h2 hb, cell_keep h3 hb, cell_keep h4 hb, cell_keep h5 hb, cell_keep h6 hb, cell_keep h7 hb, cell_keep h8 hb, cell_keep h9 hb, cell_keep h10 hb, cell_keep h11 hb, cell_keep h12 hb, cell_keep h13 hb, hB.trans (hb.mono hB.size)⟩
theorem rs_b14 {W8 W : World} {q0 q1 q2 q3 q4 q5 q6 q7 q8 q9 q10 q11 q12 q13 : Addr} {u0 u1 u2 u3 u4 u5 u6 u7 u8 u9 u10 u11 u12 u13 : Value} (h : W.cell? q0 = some u0 ∧ W.cell? q1 = some u1 ∧ W.cell? q2 = some u2 ∧ W.cell? q3 = some u3 ∧ W.cell? q4 = some u4 ∧ W.cell? q5 = some u5 ∧ W.cell? q6 = some u6 ∧ W.cell? q7 = some u7 ∧ W.cell? q8 = some u8 ∧ W.cell? q9 = some u9 ∧ W.cell? q10 = some u10 ∧ W.cell? q11 = some u11 ∧ W.cell? q12 = some u12 ∧ W.cell? q13 = some u13 ∧ Below W8.heap.size W8 W) : Below W8.heap.size W8 W := by
  obtain ⟨h0, h1, h2, h3, h4, h5, h6, h7, h8, h9, h10, h11, h12, h13, hB⟩ := h
  exact hB

set_option maxRecDepth 100000 in
set_option maxHeartbeats 25600000 in
theorem walk (a0 : Option Addr) (cap0 : Nat) (z0 : List Pr) (a1 : Int) (a2 : Int) (a3 : Int) (w : World) (w0 : Prs w a0 cap0 z0) (r0 : Rng z0) (w1 : (Lit.int .i64 a1).wf = true) (w2 : (Lit.int .i64 a2).wf = true) (w3 : (Lit.int .i64 a3).wf = true) :
    Calls Try.prog 5 #[.slice a0 z0.length cap0, .int .i64 a1, .int .i64 a2, .int .i64 a3] w fun e w' => e = .returned (.bool true) ∧ Below w.heap.size w w' := by
  have H0 := Lib.hid w0
  have hc := w0.1
  have hcm := w0.2.1
  unfold maxLen at hcm
  clear w0
  have ca := fun W => awake_any W
  have HM2 := wf_range w2
  clear w1 w2 w3 r0
  by_cases hbig : 200 < z0.length
  · have hbig' : (200 : Int) < (z0.length : Int) := by omega
    go_enter Try.func5, Try.ntmps5
    go_wp2_with (go_at_call 8; ((with_reducible refine (ca _).mono ?_); rintro e w3 ⟨rfl, hb⟩))
    go_ret
    exact ⟨rfl, hb⟩
  have hbig' : ¬ (200 : Int) < (z0.length : Int) := by omega
  have HL : Hid (z0.length ≤ 200) := Lib.hid (by omega)
  clear hbig
  have cm := fun W h => rmay_any a0 cap0 z0 W h _ rfl
  by_cases hs : Srt z0
  rotate_left
  · rw [decide_eq_false hs] at cm
    go_enter Try.func5, Try.ntmps5
    go_wp2_with (first
      | (go_at_call 14; ((with_reducible refine (cm _ H0.out).mono ?_); rintro e w1 ⟨rfl, hb1⟩))
      | (go_at_call 8; ((with_reducible refine (ca _).mono ?_); rintro e w3 ⟨rfl, hb⟩)))
    go_ret
    exact ⟨rfl, bel2 hb1 hb⟩
  rw [decide_eq_true hs] at cm
  by_cases hmin : a2 = -9223372036854775808
  · subst hmin
    go_enter Try.func5, Try.ntmps5
    go_wp2_with (first
      | (go_at_call 14; ((with_reducible refine (cm _ H0.out).mono ?_); rintro e w1 ⟨rfl, hb1⟩))
      | (go_at_call 8; ((with_reducible refine (ca _).mono ?_); rintro e w3 ⟨rfl, hb⟩)))
    go_ret
    exact ⟨rfl, bel2 hb1 hb⟩
  have hminB : (a2 == -9223372036854775808) = false := by simpa using hmin
  have hw1 : wrap64 (a2 - 1) = a2 - 1 := by unfold wrap64; omega
  obtain ⟨R, hR⟩ : ∃ R, rngL z0 a1 a3 = R := ⟨_, rfl⟩
  have HRL : Hid (R.length ≤ 200) := Lib.hid (by rw [← hR]; exact Nat.le_trans (rngL_len z0 a1 a3) HL.out)
  have HRS : Hid (Srt R) := Lib.hid (by rw [← hR]; exact rngL_srt hs a1 a3)
  have k5 := fun W h => r5 (W := W) (a := a0) (cap := cap0) (l := z0) h hs HL.out a1 a3 hR
  have k6 := fun W h => r6 (W := W) (a := a0) (cap := cap0) (l := z0) h hs HL.out a1 a3 hR
  have HW1 := Lib.hid hw1
  clear hw1 hmin
  by_cases h12 : a1 ≤ a2
  rotate_left
  · have e12 : decide (a2 < a1) = true := decide_eq_true (by omega)
    clear h12
    go_enter Try.func5, Try.ntmps5
    go_wp2_with (go_at_call 14; ((with_reducible refine (cm _ H0.out).mono ?_); clear cm; rintro e w1 ⟨rfl, hb1⟩))
    refine (k5 _ (H0.out.below hb1)).mono ?_
    rintro e w2 ⟨ao2, cp2, aa2, ca2, rfl, hP, hb⟩
    have HB2 := Lib.hid (bel1 (bel2 hb1 hb) (.cells #[.int .i64 0, .bool false, .int .i64 0, .int .i64 0, .int .i64 (R.length : Int), .slice aa2 R.length ca2] 29))
    have HP2 := Lib.hid (hP.below (bel1 (Below.refl _ w2) (.cells #[.int .i64 0, .bool false, .int .i64 0, .int .i64 0, .int .i64 (R.length : Int), .slice aa2 R.length ca2] 29)))
    have HY2 := Lib.hid (Blk.new w2 #[.int .i64 0, .bool false, .int .i64 0, .int .i64 0, .int .i64 (R.length : Int), .slice aa2 R.length ca2] 29)
    clear hP hb hb1
    go_wp2_with (fail)
    refine (k6 _ (H0.out.below HB2.out)).mono ?_
    rintro e w3 ⟨ao3, cp3, aa3, ca3, rfl, hb⟩
    have HB3 := Lib.hid (bel1 (bel2 HB2.out hb) (.cells #[.int .i64 0, .bool false, .int .i64 0, .int .i64 0, .int .i64 (R.length : Int), .slice aa3 0 ca3] 29))
    have HP3 := Lib.hid ((HP2.out.below hb).below (bel1 (Below.refl _ w3) (.cells #[.int .i64 0, .bool false, .int .i64 0, .int .i64 0, .int .i64 (R.length : Int), .slice aa3 0 ca3] 29)))
    have HY3 := Lib.hid ((HY2.out.keep hb).past (.cells #[.int .i64 0, .bool false, .int .i64 0, .int .i64 0, .int .i64 (R.length : Int), .slice aa3 0 ca3] 29))
    have HZ3 := Lib.hid (Blk.new w3 #[.int .i64 0, .bool false, .int .i64 0, .int .i64 0, .int .i64 (R.length : Int), .slice aa3 0 ca3] 29)
    clear hb
    have ya4 := HY3.out 4 _ rfl
    have ya5 := HY3.out 5 _ rfl
    have za4 := HZ3.out 4 _ rfl
    have za5 := HZ3.out 5 _ rfl
    go_wp2_with (go_at_call 8; ((with_reducible refine (ca _).mono ?_); rintro e w4 ⟨rfl, hb⟩))
    go_ret
    exact ⟨rfl, bel2 HB3.out hb⟩
  by_cases h23 : a2 ≤ a3
  rotate_left
  · have e12 : decide (a2 < a1) = false := decide_eq_false (by omega)
    have e23 : decide (a3 < a2) = true := decide_eq_true (by omega)
    clear h12 h23
    go_enter Try.func5, Try.ntmps5
    go_wp2_with (go_at_call 14; ((with_reducible refine (cm _ H0.out).mono ?_); clear cm; rintro e w1 ⟨rfl, hb1⟩))
    refine (k5 _ (H0.out.below hb1)).mono ?_
    rintro e w2 ⟨ao2, cp2, aa2, ca2, rfl, hP, hb⟩
    have HB2 := Lib.hid (bel1 (bel2 hb1 hb) (.cells #[.int .i64 0, .bool false, .int .i64 0, .int .i64 0, .int .i64 (R.length : Int), .slice aa2 R.length ca2] 29))
    have HP2 := Lib.hid (hP.below (bel1 (Below.refl _ w2) (.cells #[.int .i64 0, .bool false, .int .i64 0, .int .i64 0, .int .i64 (R.length : Int), .slice aa2 R.length ca2] 29)))
    have HY2 := Lib.hid (Blk.new w2 #[.int .i64 0, .bool false, .int .i64 0, .int .i64 0, .int .i64 (R.length : Int), .slice aa2 R.length ca2] 29)
    clear hP hb hb1
    go_wp2_with (fail)
    refine (k6 _ (H0.out.below HB2.out)).mono ?_
    rintro e w3 ⟨ao3, cp3, aa3, ca3, rfl, hb⟩
    have HB3 := Lib.hid (bel1 (bel2 HB2.out hb) (.cells #[.int .i64 0, .bool false, .int .i64 0, .int .i64 0, .int .i64 (R.length : Int), .slice aa3 0 ca3] 29))
    have HP3 := Lib.hid ((HP2.out.below hb).below (bel1 (Below.refl _ w3) (.cells #[.int .i64 0, .bool false, .int .i64 0, .int .i64 0, .int .i64 (R.length : Int), .slice aa3 0 ca3] 29)))
    have HY3 := Lib.hid ((HY2.out.keep hb).past (.cells #[.int .i64 0, .bool false, .int .i64 0, .int .i64 0, .int .i64 (R.length : Int), .slice aa3 0 ca3] 29))
    have HZ3 := Lib.hid (Blk.new w3 #[.int .i64 0, .bool false, .int .i64 0, .int .i64 0, .int .i64 (R.length : Int), .slice aa3 0 ca3] 29)
    clear hb
    have ya4 := HY3.out 4 _ rfl
    have ya5 := HY3.out 5 _ rfl
    have za4 := HZ3.out 4 _ rfl
    have za5 := HZ3.out 5 _ rfl
    go_wp2_with (go_at_call 8; ((with_reducible refine (ca _).mono ?_); rintro e w4 ⟨rfl, hb⟩))
    go_ret
    exact ⟨rfl, bel2 HB3.out hb⟩
  have e12 : decide (a2 < a1) = false := decide_eq_false (by omega)
  have e23 : decide (a3 < a2) = false := decide_eq_false (by omega)
  obtain ⟨A, hA⟩ : ∃ A, rngL z0 a1 (a2 - 1) = A := ⟨_, rfl⟩
  obtain ⟨B, hB⟩ : ∃ B, rngL z0 a2 a3 = B := ⟨_, rfl⟩
  have HAB : Hid (A ++ B = R) := Lib.hid (by rw [← hA, ← hB, ← hR]; exact rng_sp hs h12 h23)
  have kA := fun W h => r5 (W := W) (a := a0) (cap := cap0) (l := z0) h hs HL.out a1 (a2 - 1) hA
  have kB := fun W h => r5 (W := W) (a := a0) (cap := cap0) (l := z0) h hs HL.out a2 a3 hB
  obtain ⟨x, hx⟩ : ∃ x, endD R[0]? = x := ⟨_, rfl⟩
  obtain ⟨y, hy⟩ : ∃ y, endD R[R.length - 1]? = y := ⟨_, rfl⟩
  obtain ⟨x0, x1, x2⟩ := x
  obtain ⟨y0, y1, y2⟩ := y
  have k7 := fun W a cap h => r78 (W := W) (a := a) (cap := cap) (l := R) (c := 7) h HRS.out HRL.out (.inl ⟨rfl, rfl⟩) hx
  have k8 := fun W a cap h => r78 (W := W) (a := a) (cap := cap) (l := R) (c := 8) h HRS.out HRL.out (.inr ⟨rfl, rfl⟩) hy
  have HXY := Lib.hid (And.intro hx hy)
  have hw1 := HW1.out
  clear h12 h23 hA hB hx hy hR hs
  go_enter Try.func5, Try.ntmps5
  go_wp2_with (go_at_call 14; ((with_reducible refine (cm _ H0.out).mono ?_); clear cm; rintro e w1 ⟨rfl, hb1⟩))
  refine (k5 _ (H0.out.below hb1)).mono ?_
  rintro e w2 ⟨ao2, cp2, aa2, ca2, rfl, hP, hb⟩
  have HB2 := Lib.hid (bel1 (bel2 hb1 hb) (.cells #[.int .i64 0, .bool false, .int .i64 0, .int .i64 0, .int .i64 (R.length : Int), .slice aa2 R.length ca2] 29))
  have HP2 := Lib.hid (hP.below (bel1 (Below.refl _ w2) (.cells #[.int .i64 0, .bool false, .int .i64 0, .int .i64 0, .int .i64 (R.length : Int), .slice aa2 R.length ca2] 29)))
  have HY2 := Lib.hid (Blk.new w2 #[.int .i64 0, .bool false, .int .i64 0, .int .i64 0, .int .i64 (R.length : Int), .slice aa2 R.length ca2] 29)
  clear hP hb hb1
  go_wp2_with (fail)
  refine (k6 _ (H0.out.below HB2.out)).mono ?_
  rintro e w3 ⟨ao3, cp3, aa3, ca3, rfl, hb⟩
  have HB3 := Lib.hid (bel1 (bel2 HB2.out hb) (.cells #[.int .i64 0, .bool false, .int .i64 0, .int .i64 0, .int .i64 (R.length : Int), .slice aa3 0 ca3] 29))
  have HP3 := Lib.hid ((HP2.out.below hb).below (bel1 (Below.refl _ w3) (.cells #[.int .i64 0, .bool false, .int .i64 0, .int .i64 0, .int .i64 (R.length : Int), .slice aa3 0 ca3] 29)))
  have HY3 := Lib.hid ((HY2.out.keep hb).past (.cells #[.int .i64 0, .bool false, .int .i64 0, .int .i64 0, .int .i64 (R.length : Int), .slice aa3 0 ca3] 29))
  have HZ3 := Lib.hid (Blk.new w3 #[.int .i64 0, .bool false, .int .i64 0, .int .i64 0, .int .i64 (R.length : Int), .slice aa3 0 ca3] 29)
  clear hb
  have ya4 := HY3.out 4 _ rfl
  have ya5 := HY3.out 5 _ rfl
  have za4 := HZ3.out 4 _ rfl
  have za5 := HZ3.out 5 _ rfl
  go_wp2_with (fail)
  refine (kA _ (H0.out.below HB3.out)).mono ?_
  rintro e w4 ⟨ao4, cp4, aa4, ca4, rfl, hP, hb⟩
  clear ya4 ya5 za4 za5 hw1
  have HB4 := Lib.hid (bel1 (bel2 HB3.out hb) (.cells #[.int .i64 0, .bool false, .int .i64 0, .int .i64 0, .int .i64 (A.length : Int), .slice aa4 A.length ca4] 29))
  have HP4 := Lib.hid ((HP3.out.below hb).below (bel1 (Below.refl _ w4) (.cells #[.int .i64 0, .bool false, .int .i64 0, .int .i64 0, .int .i64 (A.length : Int), .slice aa4 A.length ca4] 29)))
  have HA4 := Lib.hid (hP.below (bel1 (Below.refl _ w4) (.cells #[.int .i64 0, .bool false, .int .i64 0, .int .i64 0, .int .i64 (A.length : Int), .slice aa4 A.length ca4] 29)))
  have HY4 := Lib.hid ((HY3.out.keep hb).past (.cells #[.int .i64 0, .bool false, .int .i64 0, .int .i64 0, .int .i64 (A.length : Int), .slice aa4 A.length ca4] 29))
  have HC4 := Lib.hid (Blk.new w4 #[.int .i64 0, .bool false, .int .i64 0, .int .i64 0, .int .i64 (A.length : Int), .slice aa4 A.length ca4] 29)
  clear hP hb
  go_wp2_with (fail)
  refine (kB _ (H0.out.below HB4.out)).mono ?_
  rintro e w5 ⟨ao5, cp5, aa5, ca5, rfl, hP, hb⟩
  have HB5 := Lib.hid (bel1 (bel2 HB4.out hb) (.cells #[.int .i64 0, .bool false, .int .i64 0, .int .i64 0, .int .i64 (B.length : Int), .slice aa5 B.length ca5] 29))
  have HP5 := Lib.hid ((HP4.out.below hb).below (bel1 (Below.refl _ w5) (.cells #[.int .i64 0, .bool false, .int .i64 0, .int .i64 0, .int .i64 (B.length : Int), .slice aa5 B.length ca5] 29)))
  have HA5 := Lib.hid ((HA4.out.below hb).below (bel1 (Below.refl _ w5) (.cells #[.int .i64 0, .bool false, .int .i64 0, .int .i64 0, .int .i64 (B.length : Int), .slice aa5 B.length ca5] 29)))
  have HE5 := Lib.hid (hP.below (bel1 (Below.refl _ w5) (.cells #[.int .i64 0, .bool false, .int .i64 0, .int .i64 0, .int .i64 (B.length : Int), .slice aa5 B.length ca5] 29)))
  have HY5 := Lib.hid ((HY4.out.keep hb).past (.cells #[.int .i64 0, .bool false, .int .i64 0, .int .i64 0, .int .i64 (B.length : Int), .slice aa5 B.length ca5] 29))
  have HC5 := Lib.hid ((HC4.out.keep hb).past (.cells #[.int .i64 0, .bool false, .int .i64 0, .int .i64 0, .int .i64 (B.length : Int), .slice aa5 B.length ca5] 29))
  have HD5 := Lib.hid (Blk.new w5 #[.int .i64 0, .bool false, .int .i64 0, .int .i64 0, .int .i64 (B.length : Int), .slice aa5 B.length ca5] 29)
  clear hP hb
  have ya5 := HY5.out 5 _ rfl
  go_wp2_with (fail)
  refine (k7 _ _ _ HP5.out).mono ?_
  rintro e w6 ⟨ao6, cp6, aa6, ca6, rfl, hb⟩
  clear ya5
  have HB6 := Lib.hid (bel1 (bel2 HB5.out hb) (.cells #[.int .i64 0, .bool x0, .int .i64 x1, .int .i64 x2, .int .i64 0, .slice aa6 0 ca6] 29))
  have b6 := bel1 hb (.cells #[.int .i64 0, .bool x0, .int .i64 x1, .int .i64 x2, .int .i64 0, .slice aa6 0 ca6] 29)
  have HP6 := Lib.hid (HP5.out.below b6)
  have HA6 := Lib.hid (HA5.out.below b6)
  have HE6 := Lib.hid (HE5.out.below b6)
  have HY6 := Lib.hid (HY5.out.keep b6)
  have HC6 := Lib.hid (HC5.out.keep b6)
  have HD6 := Lib.hid (HD5.out.keep b6)
  have HF6 := Lib.hid (Blk.new w6 #[.int .i64 0, .bool x0, .int .i64 x1, .int .i64 x2, .int .i64 0, .slice aa6 0 ca6] 29)
  clear hb b6
  have ya5 := HY6.out 5 _ rfl
  go_wp2_with (fail)
  refine (k8 _ _ _ HP6.out).mono ?_
  rintro e w7 ⟨ao7, cp7, aa7, ca7, rfl, hb⟩
  clear ya5
  have HB7 := Lib.hid (bel1 (bel2 HB6.out hb) (.cells #[.int .i64 0, .bool y0, .int .i64 y1, .int .i64 y2, .int .i64 0, .slice aa7 0 ca7] 29))
  have b7 := bel1 hb (.cells #[.int .i64 0, .bool y0, .int .i64 y1, .int .i64 y2, .int .i64 0, .slice aa7 0 ca7] 29)
  have HP7 := Lib.hid (HP6.out.below b7)
  have HA7 := Lib.hid (HA6.out.below b7)
  have HE7 := Lib.hid (HE6.out.below b7)
  have HY7 := Lib.hid (HY6.out.keep b7)
  have HC7 := Lib.hid (HC6.out.keep b7)
  have HD7 := Lib.hid (HD6.out.keep b7)
  have HF7 := Lib.hid (HF6.out.keep b7)
  have HG7 := Lib.hid (Blk.new w7 #[.int .i64 0, .bool y0, .int .i64 y1, .int .i64 y2, .int .i64 0, .slice aa7 0 ca7] 29)
  clear hb b7
  go_wp2_with (fail)
  have HW8 : Hid (∃ W8, W8 = w7.alloc (.cells #[.int .i64 0, .bool y0, .int .i64 y1, .int .i64 y2, .int .i64 0, .slice aa7 0 ca7] 29)) := Lib.hid ⟨_, rfl⟩
  generalize (w7.alloc (.cells #[.int .i64 0, .bool y0, .int .i64 y1, .int .i64 y2, .int .i64 0, .slice aa7 0 ca7] 29) : World) = W8 at *
  clear HW8 HP2 HP3 HP4 HP5 HP6 HA4 HA5 HA6 HE5 HE6 HY2 HY3 HY4 HY5 HY6 HC4 HC5 HC6 HD5 HD6 HF6 HZ3 HB2 HB3 HB4 HB5 HB6 k5 k6 kA kB k7 k8 H0
  by_cases hn : R.length = 0
  · obtain rfl : R = [] := List.length_eq_zero_iff.1 hn
    obtain ⟨hx, hy⟩ := HXY.out
    simp only [endD, List.getElem?_nil, Prod.mk.injEq] at hx hy
    obtain ⟨rfl, rfl, rfl⟩ := hx
    obtain ⟨rfl, rfl, rfl⟩ := hy
    have HLA : Hid (A.length + B.length = 0) := Lib.hid (by have h9 := congrArg List.length HAB.out; rw [List.length_append] at h9; exact h9)
    clear hn HXY
    simp only [List.length_nil] at *
    have HFS : Hid (W8.cell? ⟨w2.heap.size, 4, none⟩ = some (.int .i64 0) ∧ W8.cell? ⟨w2.heap.size, 5, none⟩ = some (.slice aa2 0 ca2) ∧ W8.cell? ⟨w4.heap.size, 5, none⟩ = some (.slice aa4 A.length ca4) ∧ W8.cell? ⟨w5.heap.size, 5, none⟩ = some (.slice aa5 B.length ca5) ∧ W8.cell? ⟨w6.heap.size, 1, none⟩ = some (.bool false) ∧ W8.cell? ⟨w6.heap.size, 2, none⟩ = some (.int .i64 0) ∧ W8.cell? ⟨w6.heap.size, 3, none⟩ = some (.int .i64 0) ∧ W8.cell? ⟨w7.heap.size, 1, none⟩ = some (.bool false) ∧ W8.cell? ⟨w7.heap.size, 2, none⟩ = some (.int .i64 0) ∧ W8.cell? ⟨w7.heap.size, 3, none⟩ = some (.int .i64 0) ∧ Below W8.heap.size W8 W8) := Lib.hid ⟨HY7.out 4 _ rfl, HY7.out 5 _ rfl, HC7.out 5 _ rfl, HD7.out 5 _ rfl, HF7.out 1 _ rfl, HF7.out 2 _ rfl, HF7.out 3 _ rfl, HG7.out 1 _ rfl, HG7.out 2 _ rfl, HG7.out 3 _ rfl, Below.refl _ _⟩
    refine wp_region_held_drew (S := (fun W => W.cell? ⟨w2.heap.size, 4, none⟩ = some (.int .i64 0) ∧ W.cell? ⟨w2.heap.size, 5, none⟩ = some (.slice aa2 0 ca2) ∧ W.cell? ⟨w4.heap.size, 5, none⟩ = some (.slice aa4 A.length ca4) ∧ W.cell? ⟨w5.heap.size, 5, none⟩ = some (.slice aa5 B.length ca5) ∧ W.cell? ⟨w6.heap.size, 1, none⟩ = some (.bool false) ∧ W.cell? ⟨w6.heap.size, 2, none⟩ = some (.int .i64 0) ∧ W.cell? ⟨w6.heap.size, 3, none⟩ = some (.int .i64 0) ∧ W.cell? ⟨w7.heap.size, 1, none⟩ = some (.bool false) ∧ W.cell? ⟨w7.heap.size, 2, none⟩ = some (.int .i64 0) ∧ W.cell? ⟨w7.heap.size, 3, none⟩ = some (.int .i64 0) ∧ Below W8.heap.size W8 W)) (by kernel_rfl) (rs_keep10 HFS.out ((Below.refl _ _).drew)) (fun hHeld => ?_)
    refine wpAnyH_take (i := 1) (v := ?_) rfl (by kernel_rfl) (by kernel_rfl) (by kernel_rfl) (fun _ _ _ h => h) (Or.inl ⟨by rfl, ?_⟩) hHeld ?_
    rotate_left
    · (intro wS hSw; (try dsimp only at hSw); (try go_split_ands); go_simp; try with_reducible rfl)
    try simp only [List.getElem_toArray, List.getElem_cons_succ, List.getElem_cons_zero, Act.put, List.setIfInBounds_toArray, List.set_cons_zero, List.set_cons_succ]
    refine wpAnyH_take (i := 2) (v := ?_) rfl (by kernel_rfl) (by kernel_rfl) (by kernel_rfl) (fun _ _ _ h => h) (Or.inl ⟨by rfl, ?_⟩) hHeld ?_
    rotate_left
    · (intro wS hSw; (try dsimp only at hSw); (try go_split_ands); go_simp; try with_reducible rfl)
    try simp only [List.getElem_toArray, List.getElem_cons_succ, List.getElem_cons_zero, Act.put, List.setIfInBounds_toArray, List.set_cons_zero, List.set_cons_succ]
    refine wpAnyH_take (i := 4) (v := ?_) rfl (by kernel_rfl) (by kernel_rfl) (by kernel_rfl) (fun _ _ _ h => h) (Or.inl ⟨by rfl, ?_⟩) hHeld ?_
    rotate_left
    · (intro wS hSw; (try dsimp only at hSw); (try go_split_ands); go_simp; try with_reducible rfl)
    try simp only [List.getElem_toArray, List.getElem_cons_succ, List.getElem_cons_zero, Act.put, List.setIfInBounds_toArray, List.set_cons_zero, List.set_cons_succ]
    refine wpAnyH_take (i := 5) (v := ?_) rfl (by kernel_rfl) (by kernel_rfl) (by kernel_rfl) (fun _ _ _ h => h) (Or.inl ⟨by rfl, ?_⟩) hHeld ?_
    rotate_left
    · (intro wS hSw; (try dsimp only at hSw); (try go_split_ands); go_simp; try with_reducible rfl)
    try simp only [List.getElem_toArray, List.getElem_cons_succ, List.getElem_cons_zero, Act.put, List.setIfInBounds_toArray, List.set_cons_zero, List.set_cons_succ]
    refine wpAnyH_take (i := 7) (v := ?_) rfl (by kernel_rfl) (by kernel_rfl) (by kernel_rfl) (fun _ _ _ h => h) (Or.inl ⟨by rfl, ?_⟩) hHeld ?_
    rotate_left
    · (intro wS hSw; (try dsimp only at hSw); (try go_split_ands); go_simp; try with_reducible rfl)
    try simp only [List.getElem_toArray, List.getElem_cons_succ, List.getElem_cons_zero, Act.put, List.setIfInBounds_toArray, List.set_cons_zero, List.set_cons_succ]
    refine wpAnyH_take (i := 8) (v := ?_) rfl (by kernel_rfl) (by kernel_rfl) (by kernel_rfl) (fun _ _ _ h => h) (Or.inl ⟨by rfl, ?_⟩) hHeld ?_
    rotate_left
    · (intro wS hSw; (try dsimp only at hSw); (try go_split_ands); go_simp; try with_reducible rfl)
    try simp only [List.getElem_toArray, List.getElem_cons_succ, List.getElem_cons_zero, Act.put, List.setIfInBounds_toArray, List.set_cons_zero, List.set_cons_succ]
    refine wpAnyH_ready (rs := [0]) (by kernel_rfl) (by simp) ?_
    refine AllReadyH.cons rfl (fun K hK => ?_) AllReadyH.nil
    go_simp
    refine hK.out _ _ ?_ (fun hNext => ?_)
    · exact rs_keep10 HFS.out (((Below.refl _ _).drew).alloc (Nat.le_refl _) _)
    clear hK K hHeld
    have hHeld := hNext
    clear hNext
    try simp only [List.getElem_toArray, List.getElem_cons_succ, List.getElem_cons_zero, Act.put, List.setIfInBounds_toArray, List.set_cons_zero, List.set_cons_succ]
    refine wpAnyH_ready (rs := [3]) (by kernel_rfl) (by simp) ?_
    refine AllReadyH.cons rfl (fun K hK => ?_) AllReadyH.nil
    refine step_app rfl (.tmp 109) (.tmp 111) rfl (fun j => j < W8.heap.size) (.slice (some ⟨W8.heap.size, 0, none⟩) 0 0) [] A rfl (PRow.lit W8.drew) (fun k hk => Nat.lt_of_lt_of_le hk (((Below.refl W8.heap.size W8).drew).alloc (Nat.le_refl _) (.cells #[] 27)).size) _ rfl (src_any (HA7.out.below (((Below.refl W8.heap.size W8).drew).alloc (Nat.le_refl _) (.cells #[] 27)))) (by have := HLA.out; simp; omega) A.length (by simp) A rfl ?_
    intro a8 c8 w8 hm8 hc8 hR8 hO8
    have R8 := Lib.hid hR8
    have B8 := Lib.hid (only_lt (((Below.refl W8.heap.size W8).drew).alloc (Nat.le_refl _) (.cells #[] 27)) hO8)
    have O8 := Lib.hid (hO8.below (B := W8.heap.size) (fun i hi => by omega) (((Below.refl W8.heap.size W8).drew).alloc (Nat.le_refl _) (.cells #[] 27)).size)
    clear hR8 hO8
    refine hK.out _ _ ?_ (fun hNext => ?_)
    · exact ⟨cell_keep HFS.out.1 B8.out, cell_keep HFS.out.2.1 B8.out, cell_keep HFS.out.2.2.1 B8.out, cell_keep HFS.out.2.2.2.1 B8.out, cell_keep HFS.out.2.2.2.2.1 B8.out, cell_keep HFS.out.2.2.2.2.2.1 B8.out, cell_keep HFS.out.2.2.2.2.2.2.1 B8.out, cell_keep HFS.out.2.2.2.2.2.2.2.1 B8.out, cell_keep HFS.out.2.2.2.2.2.2.2.2.1 B8.out, cell_keep HFS.out.2.2.2.2.2.2.2.2.2.1 B8.out, B8.out⟩
    clear hK K hHeld
    have hHeld := hNext
    clear hNext
    try simp only [List.getElem_toArray, List.getElem_cons_succ, List.getElem_cons_zero, Act.put, List.setIfInBounds_toArray, List.set_cons_zero, List.set_cons_succ]
    refine wpAnyH_ready (rs := [6]) (by kernel_rfl) (by simp) ?_
    refine AllReadyH.cons rfl (fun K hK => ?_) AllReadyH.nil
    refine step_app rfl (.tmp 112) (.tmp 114) rfl (fun j => j < W8.heap.size) (.slice a8 A.length c8) A B rfl R8.out (fun k hk => Nat.lt_of_lt_of_le hk B8.out.size) _ rfl (src_any (HE7.out.below B8.out)) (by have := HLA.out; omega) 0 (by have := HLA.out; omega) [] HAB.out ?_
    intro a9 c9 w9 hm9 hc9 hR9 hO9
    have R9 := Lib.hid hR9
    have B9 := Lib.hid (only_lt B8.out hO9)
    clear hR9 hO9
    refine hK.out _ _ ?_ (fun hNext => ?_)
    · exact ⟨cell_keep HFS.out.1 B9.out, cell_keep HFS.out.2.1 B9.out, cell_keep HFS.out.2.2.1 B9.out, cell_keep HFS.out.2.2.2.1 B9.out, cell_keep HFS.out.2.2.2.2.1 B9.out, cell_keep HFS.out.2.2.2.2.2.1 B9.out, cell_keep HFS.out.2.2.2.2.2.2.1 B9.out, cell_keep HFS.out.2.2.2.2.2.2.2.1 B9.out, cell_keep HFS.out.2.2.2.2.2.2.2.2.1 B9.out, cell_keep HFS.out.2.2.2.2.2.2.2.2.2.1 B9.out, B9.out⟩
    clear hK K hHeld
    have hHeld := hNext
    clear hNext
    try simp only [List.getElem_toArray, List.getElem_cons_succ, List.getElem_cons_zero, Act.put, List.setIfInBounds_toArray, List.set_cons_zero, List.set_cons_succ]
    refine wpAnyH_ready (rs := [9]) (by kernel_rfl) (by simp) ?_
    refine AllReadyH.cons rfl (fun K hK => ?_) AllReadyH.nil
    go_simp
    refine (samep_any a9 aa2 c9 ca2 [] [] _ (R9.out.prs rfl) (HP7.out.below B9.out) true (decide_eq_true rfl)).mono ?_
    rintro e wn ⟨rfl, hb⟩
    refine hK.out _ _ ?_ (fun hNext => ?_)
    · exact rs_keep10 (by assumption) hb
    clear hK K hHeld
    have hHeld := hNext
    clear hNext
    try simp only [List.getElem_toArray, List.getElem_cons_succ, List.getElem_cons_zero, Act.put, List.setIfInBounds_toArray, List.set_cons_zero, List.set_cons_succ]
    refine wpAnyH_take (i := 10) (v := ?_) rfl (by kernel_rfl) (by kernel_rfl) (by kernel_rfl) (fun _ _ _ h => h) (Or.inl ⟨by rfl, ?_⟩) hHeld ?_
    rotate_left
    · (intro wS hSw; (try dsimp only at hSw); (try go_split_ands); go_simp; try with_reducible rfl)
    try simp only [List.getElem_toArray, List.getElem_cons_succ, List.getElem_cons_zero, Act.put, List.setIfInBounds_toArray, List.set_cons_zero, List.set_cons_succ]
    refine wpAnyH_take (i := 11) (v := ?_) rfl (by kernel_rfl) (by kernel_rfl) (by kernel_rfl) (fun _ _ _ h => h) (Or.inl ⟨by rfl, ?_⟩) hHeld ?_
    rotate_left
    · (intro wS hSw; (try dsimp only at hSw); (try go_split_ands); go_simp; try with_reducible rfl)
    try simp only [List.getElem_toArray, List.getElem_cons_succ, List.getElem_cons_zero, Act.put, List.setIfInBounds_toArray, List.set_cons_zero, List.set_cons_succ]
    refine wpAnyH_take (i := 12) (v := ?_) rfl (by kernel_rfl) (by kernel_rfl) (by kernel_rfl) (fun _ _ _ h => h) (Or.inl ⟨by rfl, ?_⟩) hHeld ?_
    rotate_left
    · (intro wS hSw; (try dsimp only at hSw); (try go_split_ands); go_simp; try with_reducible rfl)
    try simp only [List.getElem_toArray, List.getElem_cons_succ, List.getElem_cons_zero, Act.put, List.setIfInBounds_toArray, List.set_cons_zero, List.set_cons_succ]
    refine wpAnyH_take (i := 13) (v := ?_) rfl (by kernel_rfl) (by kernel_rfl) (by kernel_rfl) (fun _ _ _ h => h) (Or.inl ⟨by rfl, ?_⟩) hHeld ?_
    rotate_left
    · (intro wS hSw; (try dsimp only at hSw); (try go_split_ands); go_simp; try with_reducible rfl)
    try simp only [List.getElem_toArray, List.getElem_cons_succ, List.getElem_cons_zero, Act.put, List.setIfInBounds_toArray, List.set_cons_zero, List.set_cons_succ]
    refine wpAnyH_take (i := 14) (v := ?_) rfl (by kernel_rfl) (by kernel_rfl) (by kernel_rfl) (fun _ _ _ h => h) (Or.inl ⟨by rfl, ?_⟩) hHeld ?_
    rotate_left
    · (intro wS hSw; (try dsimp only at hSw); (try go_split_ands); go_simp; try with_reducible rfl)
    try simp only [List.getElem_toArray, List.getElem_cons_succ, List.getElem_cons_zero, Act.put, List.setIfInBounds_toArray, List.set_cons_zero, List.set_cons_succ]
    refine wpAnyH_take (i := 15) (v := ?_) rfl (by kernel_rfl) (by kernel_rfl) (by kernel_rfl) (fun _ _ _ h => h) (Or.inl ⟨by rfl, ?_⟩) hHeld ?_
    rotate_left
    · (intro wS hSw; (try dsimp only at hSw); (try go_split_ands); go_simp; try with_reducible rfl)
    try simp only [List.getElem_toArray, List.getElem_cons_succ, List.getElem_cons_zero, Act.put, List.setIfInBounds_toArray, List.set_cons_zero, List.set_cons_succ]
    refine wpAnyH_take (i := 16) (v := ?_) rfl (by kernel_rfl) (by kernel_rfl) (by kernel_rfl) (fun _ _ _ h => h) (Or.inl ⟨by rfl, ?_⟩) hHeld ?_
    rotate_left
    · (intro wS hSw; (try dsimp only at hSw); (try go_split_ands); go_simp; try with_reducible rfl)
    try simp only [List.getElem_toArray, List.getElem_cons_succ, List.getElem_cons_zero, Act.put, List.setIfInBounds_toArray, List.set_cons_zero, List.set_cons_succ]
    refine wpAnyH_take (i := 17) (v := ?_) rfl (by kernel_rfl) (by kernel_rfl) (by kernel_rfl) (fun _ _ _ h => h) (Or.inl ⟨by rfl, ?_⟩) hHeld ?_
    rotate_left
    · (intro wS hSw; (try dsimp only at hSw); (try go_split_ands); go_simp; try with_reducible rfl)
    try simp only [List.getElem_toArray, List.getElem_cons_succ, List.getElem_cons_zero, Act.put, List.setIfInBounds_toArray, List.set_cons_zero, List.set_cons_succ]
    refine wpAnyH_take (i := 18) (v := ?_) rfl (by kernel_rfl) (by kernel_rfl) (by kernel_rfl) (fun _ _ _ h => h) (Or.inl ⟨by rfl, ?_⟩) hHeld ?_
    rotate_left
    · (intro wS hSw; (try dsimp only at hSw); (try go_split_ands); go_simp; try with_reducible rfl)
    try simp only [List.getElem_toArray, List.getElem_cons_succ, List.getElem_cons_zero, Act.put, List.setIfInBounds_toArray, List.set_cons_zero, List.set_cons_succ]
    refine wpAnyH_take (i := 19) (v := ?_) rfl (by kernel_rfl) (by kernel_rfl) (by kernel_rfl) (fun _ _ _ h => h) (Or.inl ⟨by rfl, ?_⟩) hHeld ?_
    rotate_left
    · (intro wS hSw; (try dsimp only at hSw); (try go_split_ands); go_simp; try with_reducible rfl)
    try simp only [List.getElem_toArray, List.getElem_cons_succ, List.getElem_cons_zero, Act.put, List.setIfInBounds_toArray, List.set_cons_zero, List.set_cons_succ]
    refine wpAnyH_take (i := 20) (v := ?_) rfl (by kernel_rfl) (by kernel_rfl) (by kernel_rfl) (fun _ _ _ h => h) (Or.inl ⟨by rfl, ?_⟩) hHeld ?_
    rotate_left
    · (intro wS hSw; (try dsimp only at hSw); (try go_split_ands); go_simp; try with_reducible rfl)
    try simp only [List.getElem_toArray, List.getElem_cons_succ, List.getElem_cons_zero, Act.put, List.setIfInBounds_toArray, List.set_cons_zero, List.set_cons_succ]
    refine wpAnyH_take (i := 21) (v := ?_) rfl (by kernel_rfl) (by kernel_rfl) (by kernel_rfl) (fun _ _ _ h => h) (Or.inl ⟨by rfl, ?_⟩) hHeld ?_
    rotate_left
    · (intro wS hSw; (try dsimp only at hSw); (try go_split_ands); go_simp; try with_reducible rfl)
    try simp only [List.getElem_toArray, List.getElem_cons_succ, List.getElem_cons_zero, Act.put, List.setIfInBounds_toArray, List.set_cons_zero, List.set_cons_succ]
    refine wpAnyH_take (i := 22) (v := ?_) rfl (by kernel_rfl) (by kernel_rfl) (by kernel_rfl) (fun _ _ _ h => h) (Or.inl ⟨by rfl, ?_⟩) hHeld ?_
    rotate_left
    · (intro wS hSw; (try dsimp only at hSw); (try go_split_ands); go_simp; try with_reducible rfl)
    try simp only [List.getElem_toArray, List.getElem_cons_succ, List.getElem_cons_zero, Act.put, List.setIfInBounds_toArray, List.set_cons_zero, List.set_cons_succ]
    refine wpAnyH_take (i := 23) (v := ?_) rfl (by kernel_rfl) (by kernel_rfl) (by kernel_rfl) (fun _ _ _ h => h) (Or.inl ⟨by rfl, ?_⟩) hHeld ?_
    rotate_left
    · (intro wS hSw; (try dsimp only at hSw); (try go_split_ands); go_simp; try with_reducible rfl)
    try simp only [List.getElem_toArray, List.getElem_cons_succ, List.getElem_cons_zero, Act.put, List.setIfInBounds_toArray, List.set_cons_zero, List.set_cons_succ]
    refine wpAnyH_take (i := 24) (v := ?_) rfl (by kernel_rfl) (by kernel_rfl) (by kernel_rfl) (fun _ _ _ h => h) (Or.inl ⟨by rfl, ?_⟩) hHeld ?_
    rotate_left
    · (intro wS hSw; (try dsimp only at hSw); (try go_split_ands); go_simp; try with_reducible rfl)
    try simp only [List.getElem_toArray, List.getElem_cons_succ, List.getElem_cons_zero, Act.put, List.setIfInBounds_toArray, List.set_cons_zero, List.set_cons_succ]
    refine wpAnyH_take (i := 25) (v := ?_) rfl (by kernel_rfl) (by kernel_rfl) (by kernel_rfl) (fun _ _ _ h => h) (Or.inl ⟨by rfl, ?_⟩) hHeld ?_
    rotate_left
    · (intro wS hSw; (try dsimp only at hSw); (try go_split_ands); go_simp; try with_reducible rfl)
    try simp only [List.getElem_toArray, List.getElem_cons_succ, List.getElem_cons_zero, Act.put, List.setIfInBounds_toArray, List.set_cons_zero, List.set_cons_succ]
    refine wpAnyH_take (i := 26) (v := ?_) rfl (by kernel_rfl) (by kernel_rfl) (by kernel_rfl) (fun _ _ _ h => h) (Or.inl ⟨by rfl, ?_⟩) hHeld ?_
    rotate_left
    · (intro wS hSw; (try dsimp only at hSw); (try go_split_ands); go_simp; try with_reducible rfl)
    try simp only [List.getElem_toArray, List.getElem_cons_succ, List.getElem_cons_zero, Act.put, List.setIfInBounds_toArray, List.set_cons_zero, List.set_cons_succ]
    refine wpAnyH_take (i := 27) (v := ?_) rfl (by kernel_rfl) (by kernel_rfl) (by kernel_rfl) (fun _ _ _ h => h) (Or.inl ⟨by rfl, ?_⟩) hHeld ?_
    rotate_left
    · (intro wS hSw; (try dsimp only at hSw); (try go_split_ands); go_simp; try with_reducible rfl)
    try simp only [List.getElem_toArray, List.getElem_cons_succ, List.getElem_cons_zero, Act.put, List.setIfInBounds_toArray, List.set_cons_zero, List.set_cons_succ]
    refine wpAnyH_take (i := 28) (v := ?_) rfl (by kernel_rfl) (by kernel_rfl) (by kernel_rfl) (fun _ _ _ h => h) (Or.inl ⟨by rfl, ?_⟩) hHeld ?_
    rotate_left
    · (intro wS hSw; (try dsimp only at hSw); (try go_split_ands); go_simp; try with_reducible rfl)
    try simp only [List.getElem_toArray, List.getElem_cons_succ, List.getElem_cons_zero, Act.put, List.setIfInBounds_toArray, List.set_cons_zero, List.set_cons_succ]
    refine wpAnyH_take (i := 29) (v := ?_) rfl (by kernel_rfl) (by kernel_rfl) (by kernel_rfl) (fun _ _ _ h => h) (Or.inl ⟨by rfl, ?_⟩) hHeld ?_
    rotate_left
    · (intro wS hSw; (try dsimp only at hSw); (try go_split_ands); go_simp; try with_reducible rfl)
    try simp only [List.getElem_toArray, List.getElem_cons_succ, List.getElem_cons_zero, Act.put, List.setIfInBounds_toArray, List.set_cons_zero, List.set_cons_succ]
    refine wpAnyH_take (i := 30) (v := undef) rfl (by kernel_rfl) (by kernel_rfl) (by kernel_rfl) (fun _ _ _ h => h) (Or.inr ⟨by rfl, rfl⟩) hHeld ?_
    try simp only [List.getElem_toArray, List.getElem_cons_succ, List.getElem_cons_zero, Act.put, List.setIfInBounds_toArray, List.set_cons_zero, List.set_cons_succ]
    refine wpAnyH_take (i := 31) (v := undef) rfl (by kernel_rfl) (by kernel_rfl) (by kernel_rfl) (fun _ _ _ h => h) (Or.inr ⟨by rfl, rfl⟩) hHeld ?_
    try simp only [List.getElem_toArray, List.getElem_cons_succ, List.getElem_cons_zero, Act.put, List.setIfInBounds_toArray, List.set_cons_zero, List.set_cons_succ]
    refine wpAnyH_take (i := 32) (v := undef) rfl (by kernel_rfl) (by kernel_rfl) (by kernel_rfl) (fun _ _ _ h => h) (Or.inr ⟨by rfl, rfl⟩) hHeld ?_
    try simp only [List.getElem_toArray, List.getElem_cons_succ, List.getElem_cons_zero, Act.put, List.setIfInBounds_toArray, List.set_cons_zero, List.set_cons_succ]
    refine wpAnyH_take (i := 33) (v := undef) rfl (by kernel_rfl) (by kernel_rfl) (by kernel_rfl) (fun _ _ _ h => h) (Or.inr ⟨by rfl, rfl⟩) hHeld ?_
    try simp only [List.getElem_toArray, List.getElem_cons_succ, List.getElem_cons_zero, Act.put, List.setIfInBounds_toArray, List.set_cons_zero, List.set_cons_succ]
    refine wpAnyH_take (i := 34) (v := undef) rfl (by kernel_rfl) (by kernel_rfl) (by kernel_rfl) (fun _ _ _ h => h) (Or.inr ⟨by rfl, rfl⟩) hHeld ?_
    try simp only [List.getElem_toArray, List.getElem_cons_succ, List.getElem_cons_zero, Act.put, List.setIfInBounds_toArray, List.set_cons_zero, List.set_cons_succ]
    refine wpAnyH_take (i := 35) (v := undef) rfl (by kernel_rfl) (by kernel_rfl) (by kernel_rfl) (fun _ _ _ h => h) (Or.inr ⟨by rfl, rfl⟩) hHeld ?_
    try simp only [List.getElem_toArray, List.getElem_cons_succ, List.getElem_cons_zero, Act.put, List.setIfInBounds_toArray, List.set_cons_zero, List.set_cons_succ]
    refine wpAnyH_take (i := 36) (v := undef) rfl (by kernel_rfl) (by kernel_rfl) (by kernel_rfl) (fun _ _ _ h => h) (Or.inr ⟨by rfl, rfl⟩) hHeld ?_
    try simp only [List.getElem_toArray, List.getElem_cons_succ, List.getElem_cons_zero, Act.put, List.setIfInBounds_toArray, List.set_cons_zero, List.set_cons_succ]
    refine wpAnyH_take (i := 37) (v := undef) rfl (by kernel_rfl) (by kernel_rfl) (by kernel_rfl) (fun _ _ _ h => h) (Or.inr ⟨by rfl, rfl⟩) hHeld ?_
    try simp only [List.getElem_toArray, List.getElem_cons_succ, List.getElem_cons_zero, Act.put, List.setIfInBounds_toArray, List.set_cons_zero, List.set_cons_succ]
    refine wpAnyH_take (i := 38) (v := undef) rfl (by kernel_rfl) (by kernel_rfl) (by kernel_rfl) (fun _ _ _ h => h) (Or.inr ⟨by rfl, rfl⟩) hHeld ?_
    try simp only [List.getElem_toArray, List.getElem_cons_succ, List.getElem_cons_zero, Act.put, List.setIfInBounds_toArray, List.set_cons_zero, List.set_cons_succ]
    refine wpAnyH_take (i := 39) (v := undef) rfl (by kernel_rfl) (by kernel_rfl) (by kernel_rfl) (fun _ _ _ h => h) (Or.inr ⟨by rfl, rfl⟩) hHeld ?_
    try simp only [List.getElem_toArray, List.getElem_cons_succ, List.getElem_cons_zero, Act.put, List.setIfInBounds_toArray, List.set_cons_zero, List.set_cons_succ]
    refine wpAnyH_take (i := 40) (v := undef) rfl (by kernel_rfl) (by kernel_rfl) (by kernel_rfl) (fun _ _ _ h => h) (Or.inr ⟨by rfl, rfl⟩) hHeld ?_
    try simp only [List.getElem_toArray, List.getElem_cons_succ, List.getElem_cons_zero, Act.put, List.setIfInBounds_toArray, List.set_cons_zero, List.set_cons_succ]
    refine wpAnyH_take (i := 41) (v := undef) rfl (by kernel_rfl) (by kernel_rfl) (by kernel_rfl) (fun _ _ _ h => h) (Or.inr ⟨by rfl, rfl⟩) hHeld ?_
    try simp only [List.getElem_toArray, List.getElem_cons_succ, List.getElem_cons_zero, Act.put, List.setIfInBounds_toArray, List.set_cons_zero, List.set_cons_succ]
    refine wpAnyH_take (i := 42) (v := undef) rfl (by kernel_rfl) (by kernel_rfl) (by kernel_rfl) (fun _ _ _ h => h) (Or.inr ⟨by rfl, rfl⟩) hHeld ?_
    try simp only [List.getElem_toArray, List.getElem_cons_succ, List.getElem_cons_zero, Act.put, List.setIfInBounds_toArray, List.set_cons_zero, List.set_cons_succ]
    refine wpAnyH_take (i := 43) (v := undef) rfl (by kernel_rfl) (by kernel_rfl) (by kernel_rfl) (fun _ _ _ h => h) (Or.inr ⟨by rfl, rfl⟩) hHeld ?_
    try simp only [List.getElem_toArray, List.getElem_cons_succ, List.getElem_cons_zero, Act.put, List.setIfInBounds_toArray, List.set_cons_zero, List.set_cons_succ]
    refine wpAnyH_take (i := 44) (v := undef) rfl (by kernel_rfl) (by kernel_rfl) (by kernel_rfl) (fun _ _ _ h => h) (Or.inr ⟨by rfl, rfl⟩) hHeld ?_
    try simp only [List.getElem_toArray, List.getElem_cons_succ, List.getElem_cons_zero, Act.put, List.setIfInBounds_toArray, List.set_cons_zero, List.set_cons_succ]
    refine wpAnyH_take (i := 45) (v := undef) rfl (by kernel_rfl) (by kernel_rfl) (by kernel_rfl) (fun _ _ _ h => h) (Or.inr ⟨by rfl, rfl⟩) hHeld ?_
    try simp only [List.getElem_toArray, List.getElem_cons_succ, List.getElem_cons_zero, Act.put, List.setIfInBounds_toArray, List.set_cons_zero, List.set_cons_succ]
    refine wpAnyH_take (i := 46) (v := undef) rfl (by kernel_rfl) (by kernel_rfl) (by kernel_rfl) (fun _ _ _ h => h) (Or.inr ⟨by rfl, rfl⟩) hHeld ?_
    try simp only [List.getElem_toArray, List.getElem_cons_succ, List.getElem_cons_zero, Act.put, List.setIfInBounds_toArray, List.set_cons_zero, List.set_cons_succ]
    refine wpAnyH_take (i := 47) (v := undef) rfl (by kernel_rfl) (by kernel_rfl) (by kernel_rfl) (fun _ _ _ h => h) (Or.inr ⟨by rfl, rfl⟩) hHeld ?_
    try simp only [List.getElem_toArray, List.getElem_cons_succ, List.getElem_cons_zero, Act.put, List.setIfInBounds_toArray, List.set_cons_zero, List.set_cons_succ]
    refine wpAnyH_take (i := 48) (v := undef) rfl (by kernel_rfl) (by kernel_rfl) (by kernel_rfl) (fun _ _ _ h => h) (Or.inr ⟨by rfl, rfl⟩) hHeld ?_
    try simp only [List.getElem_toArray, List.getElem_cons_succ, List.getElem_cons_zero, Act.put, List.setIfInBounds_toArray, List.set_cons_zero, List.set_cons_succ]
    refine wpAnyH_take (i := 49) (v := ?_) rfl (by kernel_rfl) (by kernel_rfl) (by kernel_rfl) (fun _ _ _ h => h) (Or.inl ⟨by rfl, ?_⟩) hHeld ?_
    rotate_left
    · (intro wS hSw; (try dsimp only at hSw); (try go_split_ands); go_simp; try with_reducible rfl)
    try simp only [List.getElem_toArray, List.getElem_cons_succ, List.getElem_cons_zero, Act.put, List.setIfInBounds_toArray, List.set_cons_zero, List.set_cons_succ]
    refine wpAnyH_take (i := 50) (v := ?_) rfl (by kernel_rfl) (by kernel_rfl) (by kernel_rfl) (fun _ _ _ h => h) (Or.inl ⟨by rfl, ?_⟩) hHeld ?_
    rotate_left
    · (intro wS hSw; (try dsimp only at hSw); (try go_split_ands); go_simp; try with_reducible rfl)
    try simp only [List.getElem_toArray, List.getElem_cons_succ, List.getElem_cons_zero, Act.put, List.setIfInBounds_toArray, List.set_cons_zero, List.set_cons_succ]
    refine wpAnyH_take (i := 51) (v := ?_) rfl (by kernel_rfl) (by kernel_rfl) (by kernel_rfl) (fun _ _ _ h => h) (Or.inl ⟨by rfl, ?_⟩) hHeld ?_
    rotate_left
    · (intro wS hSw; (try dsimp only at hSw); (try go_split_ands); go_simp; try with_reducible rfl)
    try simp only [List.getElem_toArray, List.getElem_cons_succ, List.getElem_cons_zero, Act.put, List.setIfInBounds_toArray, List.set_cons_zero, List.set_cons_succ]
    refine wpAnyH_ready (rs := [52]) (by kernel_rfl) (by simp) ?_
    refine AllReadyH.cons rfl (fun K hK => ?_) AllReadyH.nil
    go_simp
    refine (ca _).mono ?_
    rintro e wm ⟨rfl, hb⟩
    refine hK.out _ _ ?_ (fun hNext => ?_)
    · exact rs_keep10 (by assumption) hb
    clear hK K hHeld
    have hHeld := hNext
    clear hNext
    try simp only [List.getElem_toArray, List.getElem_cons_succ, List.getElem_cons_zero, Act.put, List.setIfInBounds_toArray, List.set_cons_zero, List.set_cons_succ]
    refine wpAnyH_take (i := 53) (v := ?_) rfl (by kernel_rfl) (by kernel_rfl) (by kernel_rfl) (fun _ _ _ h => h) (Or.inl ⟨by rfl, ?_⟩) hHeld ?_
    rotate_left
    · (intro wS hSw; (try dsimp only at hSw); (try go_split_ands); go_simp; try with_reducible rfl)
    try simp only [List.getElem_toArray, List.getElem_cons_succ, List.getElem_cons_zero, Act.put, List.setIfInBounds_toArray, List.set_cons_zero, List.set_cons_succ]
    refine wpAnyH_take (i := 54) (v := ?_) rfl (by kernel_rfl) (by kernel_rfl) (by kernel_rfl) (fun _ _ _ h => h) (Or.inl ⟨by rfl, ?_⟩) hHeld ?_
    rotate_left
    · (intro wS hSw; (try dsimp only at hSw); (try go_split_ands); go_simp; try with_reducible rfl)
    try simp only [List.getElem_toArray, List.getElem_cons_succ, List.getElem_cons_zero, Act.put, List.setIfInBounds_toArray, List.set_cons_zero, List.set_cons_succ]
    refine wpAnyH_done (by kernel_rfl) ?_ _
    have hfin := rs_b10 (by assumption)
    go_wp2_with (fail)
    go_ret
    exact ⟨rfl, bel2 HB7.out hfin⟩
  · obtain ⟨q, hq⟩ : ∃ q, R[0]? = some q := ⟨_, List.getElem?_eq_getElem (by omega)⟩
    obtain ⟨m, hm⟩ : ∃ m, R.length - 1 = m := ⟨_, rfl⟩
    obtain ⟨r, hr⟩ : ∃ q, R[m]? = some q := ⟨_, List.getElem?_eq_getElem (by omega)⟩
    obtain ⟨q0, q1⟩ := q
    obtain ⟨r0, r1⟩ := r
    obtain ⟨hx, hy⟩ := HXY.out
    rw [hq] at hx
    rw [hm, hr] at hy
    simp only [endD, Prod.mk.injEq] at hx hy
    obtain ⟨rfl, rfl, rfl⟩ := hx
    obtain ⟨rfl, rfl, rfl⟩ := hy
    obtain ⟨pb, po, rfl, e0, e1⟩ := HP7.out.2.2.1 0 _ hq
    obtain ⟨pb', po', e, e2, e3⟩ := HP7.out.2.2.1 m _ hr
    cases e
    dsimp only at e0 e1 e2 e3
    rw [Nat.zero_mul, Nat.add_zero] at e0 e1
    have hi0 : (0 : Int) < (R.length : Int) := by omega
    have hi1 : decide ((0 : Int) < (R.length : Int)) = true := decide_eq_true hi0
    have hi2 : 0 < R.length := by omega
    have hiA : IntKind.i64.wrap ((R.length : Int) - 1) = (m : Int) := by have := HRL.out; rw [IntKind.wrap_i64]; omega
    have hiB : (0 : Int) ≤ (m : Int) := by omega
    have hiC : (m : Int) < (R.length : Int) := by omega
    clear hm
    have hi3 : ¬ R = [] := fun e => by rw [e] at hn; exact hn rfl
    have hi4 : (R == []) = false := by cases R with | nil => exact absurd rfl hi3 | cons _ _ => rfl
    have HLA : Hid (A.length + B.length = R.length ∧ R.length ≤ 200) := Lib.hid ⟨by rw [← HAB.out, List.length_append], HRL.out⟩
    clear hn HXY hq hr
    have HFS : Hid (W8.cell? ⟨w2.heap.size, 4, none⟩ = some (.int .i64 (R.length : Int)) ∧ W8.cell? ⟨w2.heap.size, 5, none⟩ = some (.slice (some ⟨pb, po, none⟩) R.length ca2) ∧ W8.cell? ⟨w4.heap.size, 5, none⟩ = some (.slice aa4 A.length ca4) ∧ W8.cell? ⟨w5.heap.size, 5, none⟩ = some (.slice aa5 B.length ca5) ∧ W8.cell? ⟨w6.heap.size, 1, none⟩ = some (.bool true) ∧ W8.cell? ⟨w6.heap.size, 2, none⟩ = some (.int .i64 q0) ∧ W8.cell? ⟨w6.heap.size, 3, none⟩ = some (.int .i64 q1) ∧ W8.cell? ⟨w7.heap.size, 1, none⟩ = some (.bool true) ∧ W8.cell? ⟨w7.heap.size, 2, none⟩ = some (.int .i64 r0) ∧ W8.cell? ⟨w7.heap.size, 3, none⟩ = some (.int .i64 r1) ∧ W8.cell? ⟨pb, po, none⟩ = some (.int .i64 q0) ∧ W8.cell? ⟨pb, po + 1, none⟩ = some (.int .i64 q1) ∧ W8.cell? ⟨pb, po + m * 2, none⟩ = some (.int .i64 r0) ∧ W8.cell? ⟨pb, po + m * 2 + 1, none⟩ = some (.int .i64 r1) ∧ Below W8.heap.size W8 W8) := Lib.hid ⟨HY7.out 4 _ rfl, HY7.out 5 _ rfl, HC7.out 5 _ rfl, HD7.out 5 _ rfl, HF7.out 1 _ rfl, HF7.out 2 _ rfl, HF7.out 3 _ rfl, HG7.out 1 _ rfl, HG7.out 2 _ rfl, HG7.out 3 _ rfl, e0, e1, e2, e3, Below.refl _ _⟩
    clear e0 e1 e2 e3
    refine wp_region_held_drew (S := (fun W => W.cell? ⟨w2.heap.size, 4, none⟩ = some (.int .i64 (R.length : Int)) ∧ W.cell? ⟨w2.heap.size, 5, none⟩ = some (.slice (some ⟨pb, po, none⟩) R.length ca2) ∧ W.cell? ⟨w4.heap.size, 5, none⟩ = some (.slice aa4 A.length ca4) ∧ W.cell? ⟨w5.heap.size, 5, none⟩ = some (.slice aa5 B.length ca5) ∧ W.cell? ⟨w6.heap.size, 1, none⟩ = some (.bool true) ∧ W.cell? ⟨w6.heap.size, 2, none⟩ = some (.int .i64 q0) ∧ W.cell? ⟨w6.heap.size, 3, none⟩ = some (.int .i64 q1) ∧ W.cell? ⟨w7.heap.size, 1, none⟩ = some (.bool true) ∧ W.cell? ⟨w7.heap.size, 2, none⟩ = some (.int .i64 r0) ∧ W.cell? ⟨w7.heap.size, 3, none⟩ = some (.int .i64 r1) ∧ W.cell? ⟨pb, po, none⟩ = some (.int .i64 q0) ∧ W.cell? ⟨pb, po + 1, none⟩ = some (.int .i64 q1) ∧ W.cell? ⟨pb, po + m * 2, none⟩ = some (.int .i64 r0) ∧ W.cell? ⟨pb, po + m * 2 + 1, none⟩ = some (.int .i64 r1) ∧ Below W8.heap.size W8 W)) (by kernel_rfl) (rs_keep14 HFS.out ((Below.refl _ _).drew)) (fun hHeld => ?_)
    refine wpAnyH_take (i := 1) (v := ?_) rfl (by kernel_rfl) (by kernel_rfl) (by kernel_rfl) (fun _ _ _ h => h) (Or.inl ⟨by rfl, ?_⟩) hHeld ?_
    rotate_left
    · (intro wS hSw; (try dsimp only at hSw); (try go_split_ands); go_simp; try with_reducible rfl)
    try simp only [List.getElem_toArray, List.getElem_cons_succ, List.getElem_cons_zero, Act.put, List.setIfInBounds_toArray, List.set_cons_zero, List.set_cons_succ]
    refine wpAnyH_take (i := 2) (v := ?_) rfl (by kernel_rfl) (by kernel_rfl) (by kernel_rfl) (fun _ _ _ h => h) (Or.inl ⟨by rfl, ?_⟩) hHeld ?_
    rotate_left
    · (intro wS hSw; (try dsimp only at hSw); (try go_split_ands); go_simp; try with_reducible rfl)
    try simp only [List.getElem_toArray, List.getElem_cons_succ, List.getElem_cons_zero, Act.put, List.setIfInBounds_toArray, List.set_cons_zero, List.set_cons_succ]
    refine wpAnyH_take (i := 4) (v := ?_) rfl (by kernel_rfl) (by kernel_rfl) (by kernel_rfl) (fun _ _ _ h => h) (Or.inl ⟨by rfl, ?_⟩) hHeld ?_
    rotate_left
    · (intro wS hSw; (try dsimp only at hSw); (try go_split_ands); go_simp; try with_reducible rfl)
    try simp only [List.getElem_toArray, List.getElem_cons_succ, List.getElem_cons_zero, Act.put, List.setIfInBounds_toArray, List.set_cons_zero, List.set_cons_succ]
    refine wpAnyH_take (i := 5) (v := ?_) rfl (by kernel_rfl) (by kernel_rfl) (by kernel_rfl) (fun _ _ _ h => h) (Or.inl ⟨by rfl, ?_⟩) hHeld ?_
    rotate_left
    · (intro wS hSw; (try dsimp only at hSw); (try go_split_ands); go_simp; try with_reducible rfl)
    try simp only [List.getElem_toArray, List.getElem_cons_succ, List.getElem_cons_zero, Act.put, List.setIfInBounds_toArray, List.set_cons_zero, List.set_cons_succ]
    refine wpAnyH_take (i := 7) (v := ?_) rfl (by kernel_rfl) (by kernel_rfl) (by kernel_rfl) (fun _ _ _ h => h) (Or.inl ⟨by rfl, ?_⟩) hHeld ?_
    rotate_left
    · (intro wS hSw; (try dsimp only at hSw); (try go_split_ands); go_simp; try with_reducible rfl)
    try simp only [List.getElem_toArray, List.getElem_cons_succ, List.getElem_cons_zero, Act.put, List.setIfInBounds_toArray, List.set_cons_zero, List.set_cons_succ]
    refine wpAnyH_take (i := 8) (v := ?_) rfl (by kernel_rfl) (by kernel_rfl) (by kernel_rfl) (fun _ _ _ h => h) (Or.inl ⟨by rfl, ?_⟩) hHeld ?_
    rotate_left
    · (intro wS hSw; (try dsimp only at hSw); (try go_split_ands); go_simp; try with_reducible rfl)
    try simp only [List.getElem_toArray, List.getElem_cons_succ, List.getElem_cons_zero, Act.put, List.setIfInBounds_toArray, List.set_cons_zero, List.set_cons_succ]
    refine wpAnyH_ready (rs := [0]) (by kernel_rfl) (by simp) ?_
    refine AllReadyH.cons rfl (fun K hK => ?_) AllReadyH.nil
    go_simp
    refine hK.out _ _ ?_ (fun hNext => ?_)
    · exact rs_keep14 HFS.out (((Below.refl _ _).drew).alloc (Nat.le_refl _) _)
    clear hK K hHeld
    have hHeld := hNext
    clear hNext
    try simp only [List.getElem_toArray, List.getElem_cons_succ, List.getElem_cons_zero, Act.put, List.setIfInBounds_toArray, List.set_cons_zero, List.set_cons_succ]
    refine wpAnyH_ready (rs := [3]) (by kernel_rfl) (by simp) ?_
    refine AllReadyH.cons rfl (fun K hK => ?_) AllReadyH.nil
    refine step_app rfl (.tmp 109) (.tmp 111) rfl (fun j => j < W8.heap.size) (.slice (some ⟨W8.heap.size, 0, none⟩) 0 0) [] A rfl (PRow.lit W8.drew) (fun k hk => Nat.lt_of_lt_of_le hk (((Below.refl W8.heap.size W8).drew).alloc (Nat.le_refl _) (.cells #[] 27)).size) _ rfl (src_any (HA7.out.below (((Below.refl W8.heap.size W8).drew).alloc (Nat.le_refl _) (.cells #[] 27)))) (by have := HLA.out; simp; omega) A.length (by simp) A rfl ?_
    intro a8 c8 w8 hm8 hc8 hR8 hO8
    have R8 := Lib.hid hR8
    have B8 := Lib.hid (only_lt (((Below.refl W8.heap.size W8).drew).alloc (Nat.le_refl _) (.cells #[] 27)) hO8)
    have O8 := Lib.hid (hO8.below (B := W8.heap.size) (fun i hi => by omega) (((Below.refl W8.heap.size W8).drew).alloc (Nat.le_refl _) (.cells #[] 27)).size)
    clear hR8 hO8
    refine hK.out _ _ ?_ (fun hNext => ?_)
    · exact ⟨cell_keep HFS.out.1 B8.out, cell_keep HFS.out.2.1 B8.out, cell_keep HFS.out.2.2.1 B8.out, cell_keep HFS.out.2.2.2.1 B8.out, cell_keep HFS.out.2.2.2.2.1 B8.out, cell_keep HFS.out.2.2.2.2.2.1 B8.out, cell_keep HFS.out.2.2.2.2.2.2.1 B8.out, cell_keep HFS.out.2.2.2.2.2.2.2.1 B8.out, cell_keep HFS.out.2.2.2.2.2.2.2.2.1 B8.out, cell_keep HFS.out.2.2.2.2.2.2.2.2.2.1 B8.out, cell_keep HFS.out.2.2.2.2.2.2.2.2.2.2.1 B8.out, cell_keep HFS.out.2.2.2.2.2.2.2.2.2.2.2.1 B8.out, cell_keep HFS.out.2.2.2.2.2.2.2.2.2.2.2.2.1 B8.out, cell_keep HFS.out.2.2.2.2.2.2.2.2.2.2.2.2.2.1 B8.out, B8.out⟩
    clear hK K hHeld
    have hHeld := hNext
    clear hNext
    try simp only [List.getElem_toArray, List.getElem_cons_succ, List.getElem_cons_zero, Act.put, List.setIfInBounds_toArray, List.set_cons_zero, List.set_cons_succ]
    refine wpAnyH_ready (rs := [6]) (by kernel_rfl) (by simp) ?_
    refine AllReadyH.cons rfl (fun K hK => ?_) AllReadyH.nil
    refine step_app rfl (.tmp 112) (.tmp 114) rfl (fun j => j < W8.heap.size) (.slice a8 A.length c8) A B rfl R8.out (fun k hk => Nat.lt_of_lt_of_le hk B8.out.size) _ rfl (src_any (HE7.out.below B8.out)) (by have := HLA.out; omega) R.length (by have := HLA.out; omega) R HAB.out ?_
    intro a9 c9 w9 hm9 hc9 hR9 hO9
    have R9 := Lib.hid hR9
    have B9 := Lib.hid (only_lt B8.out hO9)
    clear hR9 hO9
    refine hK.out _ _ ?_ (fun hNext => ?_)
    · exact ⟨cell_keep HFS.out.1 B9.out, cell_keep HFS.out.2.1 B9.out, cell_keep HFS.out.2.2.1 B9.out, cell_keep HFS.out.2.2.2.1 B9.out, cell_keep HFS.out.2.2.2.2.1 B9.out, cell_keep HFS.out.2.2.2.2.2.1 B9.out, cell_keep HFS.out.2.2.2.2.2.2.1 B9.out, cell_keep HFS.out.2.2.2.2.2.2.2.1 B9.out, cell_keep HFS.out.2.2.2.2.2.2.2.2.1 B9.out, cell_keep HFS.out.2.2.2.2.2.2.2.2.2.1 B9.out, cell_keep HFS.out.2.2.2.2.2.2.2.2.2.2.1 B9.out, cell_keep HFS.out.2.2.2.2.2.2.2.2.2.2.2.1 B9.out, cell_keep HFS.out.2.2.2.2.2.2.2.2.2.2.2.2.1 B9.out, cell_keep HFS.out.2.2.2.2.2.2.2.2.2.2.2.2.2.1 B9.out, B9.out⟩
    clear hK K hHeld
    have hHeld := hNext
    clear hNext
    try simp only [List.getElem_toArray, List.getElem_cons_succ, List.getElem_cons_zero, Act.put, List.setIfInBounds_toArray, List.set_cons_zero, List.set_cons_succ]
    refine wpAnyH_ready (rs := [9]) (by kernel_rfl) (by simp) ?_
    refine AllReadyH.cons rfl (fun K hK => ?_) AllReadyH.nil
    go_simp
    refine (samep_any a9 (some ⟨pb, po, none⟩) c9 ca2 R R _ (R9.out.prs rfl) (HP7.out.below B9.out) true (decide_eq_true rfl)).mono ?_
    rintro e wn ⟨rfl, hb⟩
    refine hK.out _ _ ?_ (fun hNext => ?_)
    · exact rs_keep14 (by assumption) hb
    clear hK K hHeld
    have hHeld := hNext
    clear hNext
    try simp only [List.getElem_toArray, List.getElem_cons_succ, List.getElem_cons_zero, Act.put, List.setIfInBounds_toArray, List.set_cons_zero, List.set_cons_succ]
    refine wpAnyH_take (i := 10) (v := ?_) rfl (by kernel_rfl) (by kernel_rfl) (by kernel_rfl) (fun _ _ _ h => h) (Or.inl ⟨by rfl, ?_⟩) hHeld ?_
    rotate_left
    · (intro wS hSw; (try dsimp only at hSw); (try go_split_ands); go_simp; try with_reducible rfl)
    try simp only [List.getElem_toArray, List.getElem_cons_succ, List.getElem_cons_zero, Act.put, List.setIfInBounds_toArray, List.set_cons_zero, List.set_cons_succ]
    refine wpAnyH_take (i := 11) (v := ?_) rfl (by kernel_rfl) (by kernel_rfl) (by kernel_rfl) (fun _ _ _ h => h) (Or.inl ⟨by rfl, ?_⟩) hHeld ?_
    rotate_left
    · (intro wS hSw; (try dsimp only at hSw); (try go_split_ands); go_simp; try with_reducible rfl)
    try simp only [List.getElem_toArray, List.getElem_cons_succ, List.getElem_cons_zero, Act.put, List.setIfInBounds_toArray, List.set_cons_zero, List.set_cons_succ]
    refine wpAnyH_take (i := 12) (v := ?_) rfl (by kernel_rfl) (by kernel_rfl) (by kernel_rfl) (fun _ _ _ h => h) (Or.inl ⟨by rfl, ?_⟩) hHeld ?_
    rotate_left
    · (intro wS hSw; (try dsimp only at hSw); (try go_split_ands); go_simp; try with_reducible rfl)
    try simp only [List.getElem_toArray, List.getElem_cons_succ, List.getElem_cons_zero, Act.put, List.setIfInBounds_toArray, List.set_cons_zero, List.set_cons_succ]
    refine wpAnyH_take (i := 13) (v := ?_) rfl (by kernel_rfl) (by kernel_rfl) (by kernel_rfl) (fun _ _ _ h => h) (Or.inl ⟨by rfl, ?_⟩) hHeld ?_
    rotate_left
    · (intro wS hSw; (try dsimp only at hSw); (try go_split_ands); go_simp; try with_reducible rfl)
    try simp only [List.getElem_toArray, List.getElem_cons_succ, List.getElem_cons_zero, Act.put, List.setIfInBounds_toArray, List.set_cons_zero, List.set_cons_succ]
    refine wpAnyH_take (i := 14) (v := ?_) rfl (by kernel_rfl) (by kernel_rfl) (by kernel_rfl) (fun _ _ _ h => h) (Or.inl ⟨by rfl, ?_⟩) hHeld ?_
    rotate_left
    · (intro wS hSw; (try dsimp only at hSw); (try go_split_ands); go_simp; try with_reducible rfl)
    try simp only [List.getElem_toArray, List.getElem_cons_succ, List.getElem_cons_zero, Act.put, List.setIfInBounds_toArray, List.set_cons_zero, List.set_cons_succ]
    refine wpAnyH_take (i := 15) (v := ?_) rfl (by kernel_rfl) (by kernel_rfl) (by kernel_rfl) (fun _ _ _ h => h) (Or.inl ⟨by rfl, ?_⟩) hHeld ?_
    rotate_left
    · (intro wS hSw; (try dsimp only at hSw); (try go_split_ands); go_simp; try with_reducible rfl)
    try simp only [List.getElem_toArray, List.getElem_cons_succ, List.getElem_cons_zero, Act.put, List.setIfInBounds_toArray, List.set_cons_zero, List.set_cons_succ]
    refine wpAnyH_take (i := 16) (v := ?_) rfl (by kernel_rfl) (by kernel_rfl) (by kernel_rfl) (fun _ _ _ h => h) (Or.inl ⟨by rfl, ?_⟩) hHeld ?_
    rotate_left
    · (intro wS hSw; (try dsimp only at hSw); (try go_split_ands); go_simp; try with_reducible rfl)
    try simp only [List.getElem_toArray, List.getElem_cons_succ, List.getElem_cons_zero, Act.put, List.setIfInBounds_toArray, List.set_cons_zero, List.set_cons_succ]
    refine wpAnyH_take (i := 17) (v := ?_) rfl (by kernel_rfl) (by kernel_rfl) (by kernel_rfl) (fun _ _ _ h => h) (Or.inl ⟨by rfl, ?_⟩) hHeld ?_
    rotate_left
    · (intro wS hSw; (try dsimp only at hSw); (try go_split_ands); go_simp; try with_reducible rfl)
    try simp only [List.getElem_toArray, List.getElem_cons_succ, List.getElem_cons_zero, Act.put, List.setIfInBounds_toArray, List.set_cons_zero, List.set_cons_succ]
    refine wpAnyH_take (i := 18) (v := ?_) rfl (by kernel_rfl) (by kernel_rfl) (by kernel_rfl) (fun _ _ _ h => h) (Or.inl ⟨by rfl, ?_⟩) hHeld ?_
    rotate_left
    · (intro wS hSw; (try dsimp only at hSw); (try go_split_ands); go_simp; try with_reducible rfl)
    try simp only [List.getElem_toArray, List.getElem_cons_succ, List.getElem_cons_zero, Act.put, List.setIfInBounds_toArray, List.set_cons_zero, List.set_cons_succ]
    refine wpAnyH_take (i := 19) (v := ?_) rfl (by kernel_rfl) (by kernel_rfl) (by kernel_rfl) (fun _ _ _ h => h) (Or.inl ⟨by rfl, ?_⟩) hHeld ?_
    rotate_left
    · (intro wS hSw; (try dsimp only at hSw); (try go_split_ands); go_simp; try with_reducible rfl)
    try simp only [List.getElem_toArray, List.getElem_cons_succ, List.getElem_cons_zero, Act.put, List.setIfInBounds_toArray, List.set_cons_zero, List.set_cons_succ]
    refine wpAnyH_take (i := 20) (v := ?_) rfl (by kernel_rfl) (by kernel_rfl) (by kernel_rfl) (fun _ _ _ h => h) (Or.inl ⟨by rfl, ?_⟩) hHeld ?_
    rotate_left
    · (intro wS hSw; (try dsimp only at hSw); (try go_split_ands); go_simp; try with_reducible rfl)
    try simp only [List.getElem_toArray, List.getElem_cons_succ, List.getElem_cons_zero, Act.put, List.setIfInBounds_toArray, List.set_cons_zero, List.set_cons_succ]
    refine wpAnyH_take (i := 21) (v := ?_) rfl (by kernel_rfl) (by kernel_rfl) (by kernel_rfl) (fun _ _ _ h => h) (Or.inl ⟨by rfl, ?_⟩) hHeld ?_
    rotate_left
    · (intro wS hSw; (try dsimp only at hSw); (try go_split_ands); go_simp; try with_reducible rfl)
    try simp only [List.getElem_toArray, List.getElem_cons_succ, List.getElem_cons_zero, Act.put, List.setIfInBounds_toArray, List.set_cons_zero, List.set_cons_succ]
    refine wpAnyH_take (i := 22) (v := ?_) rfl (by kernel_rfl) (by kernel_rfl) (by kernel_rfl) (fun _ _ _ h => h) (Or.inl ⟨by rfl, ?_⟩) hHeld ?_
    rotate_left
    · (intro wS hSw; (try dsimp only at hSw); (try go_split_ands); go_simp; try with_reducible rfl)
    try simp only [List.getElem_toArray, List.getElem_cons_succ, List.getElem_cons_zero, Act.put, List.setIfInBounds_toArray, List.set_cons_zero, List.set_cons_succ]
    refine wpAnyH_take (i := 23) (v := ?_) rfl (by kernel_rfl) (by kernel_rfl) (by kernel_rfl) (fun _ _ _ h => h) (Or.inl ⟨by rfl, ?_⟩) hHeld ?_
    rotate_left
    · (intro wS hSw; (try dsimp only at hSw); (try go_split_ands); go_simp; try with_reducible rfl)
    try simp only [List.getElem_toArray, List.getElem_cons_succ, List.getElem_cons_zero, Act.put, List.setIfInBounds_toArray, List.set_cons_zero, List.set_cons_succ]
    refine wpAnyH_take (i := 24) (v := ?_) rfl (by kernel_rfl) (by kernel_rfl) (by kernel_rfl) (fun _ _ _ h => h) (Or.inl ⟨by rfl, ?_⟩) hHeld ?_
    rotate_left
    · (intro wS hSw; (try dsimp only at hSw); (try go_split_ands); go_simp; try with_reducible rfl)
    try simp only [List.getElem_toArray, List.getElem_cons_succ, List.getElem_cons_zero, Act.put, List.setIfInBounds_toArray, List.set_cons_zero, List.set_cons_succ]
    refine wpAnyH_take (i := 25) (v := ?_) rfl (by kernel_rfl) (by kernel_rfl) (by kernel_rfl) (fun _ _ _ h => h) (Or.inl ⟨by rfl, ?_⟩) hHeld ?_
    rotate_left
    · (intro wS hSw; (try dsimp only at hSw); (try go_split_ands); go_simp; try with_reducible rfl)
    try simp only [List.getElem_toArray, List.getElem_cons_succ, List.getElem_cons_zero, Act.put, List.setIfInBounds_toArray, List.set_cons_zero, List.set_cons_succ]
    refine wpAnyH_take (i := 26) (v := ?_) rfl (by kernel_rfl) (by kernel_rfl) (by kernel_rfl) (fun _ _ _ h => h) (Or.inl ⟨by rfl, ?_⟩) hHeld ?_
    rotate_left
    · (intro wS hSw; (try dsimp only at hSw); (try go_split_ands); go_simp; try with_reducible rfl)
    try simp only [List.getElem_toArray, List.getElem_cons_succ, List.getElem_cons_zero, Act.put, List.setIfInBounds_toArray, List.set_cons_zero, List.set_cons_succ]
    refine wpAnyH_take (i := 27) (v := ?_) rfl (by kernel_rfl) (by kernel_rfl) (by kernel_rfl) (fun _ _ _ h => h) (Or.inl ⟨by rfl, ?_⟩) hHeld ?_
    rotate_left
    · (intro wS hSw; (try dsimp only at hSw); (try go_split_ands); go_simp; try with_reducible rfl)
    try simp only [List.getElem_toArray, List.getElem_cons_succ, List.getElem_cons_zero, Act.put, List.setIfInBounds_toArray, List.set_cons_zero, List.set_cons_succ]
    refine wpAnyH_take (i := 28) (v := ?_) rfl (by kernel_rfl) (by kernel_rfl) (by kernel_rfl) (fun _ _ _ h => h) (Or.inl ⟨by rfl, ?_⟩) hHeld ?_
    rotate_left
    · (intro wS hSw; (try dsimp only at hSw); (try go_split_ands); go_simp; try with_reducible rfl)
    try simp only [List.getElem_toArray, List.getElem_cons_succ, List.getElem_cons_zero, Act.put, List.setIfInBounds_toArray, List.set_cons_zero, List.set_cons_succ]
    refine wpAnyH_take (i := 29) (v := ?_) rfl (by kernel_rfl) (by kernel_rfl) (by kernel_rfl) (fun _ _ _ h => h) (Or.inl ⟨by rfl, ?_⟩) hHeld ?_
    rotate_left
    · (intro wS hSw; (try dsimp only at hSw); (try go_split_ands); go_simp; try with_reducible rfl)
    try simp only [List.getElem_toArray, List.getElem_cons_succ, List.getElem_cons_zero, Act.put, List.setIfInBounds_toArray, List.set_cons_zero, List.set_cons_succ]
    refine wpAnyH_take (i := 30) (v := ?_) rfl (by kernel_rfl) (by kernel_rfl) (by kernel_rfl) (fun _ _ _ h => h) (Or.inl ⟨by rfl, ?_⟩) hHeld ?_
    rotate_left
    · (intro wS hSw; (try dsimp only at hSw); (try go_split_ands); go_simp; try with_reducible rfl)
    try simp only [List.getElem_toArray, List.getElem_cons_succ, List.getElem_cons_zero, Act.put, List.setIfInBounds_toArray, List.set_cons_zero, List.set_cons_succ]
    refine wpAnyH_take (i := 31) (v := ?_) rfl (by kernel_rfl) (by kernel_rfl) (by kernel_rfl) (fun _ _ _ h => h) (Or.inl ⟨by rfl, ?_⟩) hHeld ?_
    rotate_left
    · (intro wS hSw; (try dsimp only at hSw); (try go_split_ands); go_simp; try with_reducible rfl)
    try simp only [List.getElem_toArray, List.getElem_cons_succ, List.getElem_cons_zero, Act.put, List.setIfInBounds_toArray, List.set_cons_zero, List.set_cons_succ]
    refine wpAnyH_take (i := 32) (v := ?_) rfl (by kernel_rfl) (by kernel_rfl) (by kernel_rfl) (fun _ _ _ h => h) (Or.inl ⟨by rfl, ?_⟩) hHeld ?_
    rotate_left
    · (intro wS hSw; (try dsimp only at hSw); (try go_split_ands); go_simp; try with_reducible rfl)
    try simp only [List.getElem_toArray, List.getElem_cons_succ, List.getElem_cons_zero, Act.put, List.setIfInBounds_toArray, List.set_cons_zero, List.set_cons_succ]
    refine wpAnyH_take (i := 33) (v := ?_) rfl (by kernel_rfl) (by kernel_rfl) (by kernel_rfl) (fun _ _ _ h => h) (Or.inl ⟨by rfl, ?_⟩) hHeld ?_
    rotate_left
    · (intro wS hSw; (try dsimp only at hSw); (try go_split_ands); go_simp; try with_reducible rfl)
    try simp only [List.getElem_toArray, List.getElem_cons_succ, List.getElem_cons_zero, Act.put, List.setIfInBounds_toArray, List.set_cons_zero, List.set_cons_succ]
    refine wpAnyH_take (i := 34) (v := ?_) rfl (by kernel_rfl) (by kernel_rfl) (by kernel_rfl) (fun _ _ _ h => h) (Or.inl ⟨by rfl, ?_⟩) hHeld ?_
    rotate_left
    · (intro wS hSw; (try dsimp only at hSw); (try go_split_ands); go_simp; try with_reducible rfl)
    try simp only [List.getElem_toArray, List.getElem_cons_succ, List.getElem_cons_zero, Act.put, List.setIfInBounds_toArray, List.set_cons_zero, List.set_cons_succ]
    refine wpAnyH_take (i := 35) (v := ?_) rfl (by kernel_rfl) (by kernel_rfl) (by kernel_rfl) (fun _ _ _ h => h) (Or.inl ⟨by rfl, ?_⟩) hHeld ?_
    rotate_left
    · (intro wS hSw; (try dsimp only at hSw); (try go_split_ands); go_simp; try with_reducible rfl)
    try simp only [List.getElem_toArray, List.getElem_cons_succ, List.getElem_cons_zero, Act.put, List.setIfInBounds_toArray, List.set_cons_zero, List.set_cons_succ]
    refine wpAnyH_take (i := 36) (v := ?_) rfl (by kernel_rfl) (by kernel_rfl) (by kernel_rfl) (fun _ _ _ h => h) (Or.inl ⟨by rfl, ?_⟩) hHeld ?_
    rotate_left
    · (intro wS hSw; (try dsimp only at hSw); (try go_split_ands); go_simp; try with_reducible rfl)
    try simp only [List.getElem_toArray, List.getElem_cons_succ, List.getElem_cons_zero, Act.put, List.setIfInBounds_toArray, List.set_cons_zero, List.set_cons_succ]
    refine wpAnyH_take (i := 37) (v := ?_) rfl (by kernel_rfl) (by kernel_rfl) (by kernel_rfl) (fun _ _ _ h => h) (Or.inl ⟨by rfl, ?_⟩) hHeld ?_
    rotate_left
    · (intro wS hSw; (try dsimp only at hSw); (try go_split_ands); go_simp; try with_reducible rfl)
    try simp only [List.getElem_toArray, List.getElem_cons_succ, List.getElem_cons_zero, Act.put, List.setIfInBounds_toArray, List.set_cons_zero, List.set_cons_succ]
    refine wpAnyH_take (i := 38) (v := ?_) rfl (by kernel_rfl) (by kernel_rfl) (by kernel_rfl) (fun _ _ _ h => h) (Or.inl ⟨by rfl, ?_⟩) hHeld ?_
    rotate_left
    · (intro wS hSw; (try dsimp only at hSw); (try go_split_ands); go_simp; try with_reducible rfl)
    try simp only [List.getElem_toArray, List.getElem_cons_succ, List.getElem_cons_zero, Act.put, List.setIfInBounds_toArray, List.set_cons_zero, List.set_cons_succ]
    refine wpAnyH_take (i := 39) (v := ?_) rfl (by kernel_rfl) (by kernel_rfl) (by kernel_rfl) (fun _ _ _ h => h) (Or.inl ⟨by rfl, ?_⟩) hHeld ?_
    rotate_left
    · (intro wS hSw; (try dsimp only at hSw); (try go_split_ands); go_simp; try with_reducible rfl)
    try simp only [List.getElem_toArray, List.getElem_cons_succ, List.getElem_cons_zero, Act.put, List.setIfInBounds_toArray, List.set_cons_zero, List.set_cons_succ]
    refine wpAnyH_take (i := 40) (v := ?_) rfl (by kernel_rfl) (by kernel_rfl) (by kernel_rfl) (fun _ _ _ h => h) (Or.inl ⟨by rfl, ?_⟩) hHeld ?_
    rotate_left
    · (intro wS hSw; (try dsimp only at hSw); (try go_split_ands); go_simp; try with_reducible rfl)
    try simp only [List.getElem_toArray, List.getElem_cons_succ, List.getElem_cons_zero, Act.put, List.setIfInBounds_toArray, List.set_cons_zero, List.set_cons_succ]
    refine wpAnyH_take (i := 41) (v := ?_) rfl (by kernel_rfl) (by kernel_rfl) (by kernel_rfl) (fun _ _ _ h => h) (Or.inl ⟨by rfl, ?_⟩) hHeld ?_
    rotate_left
    · (intro wS hSw; (try dsimp only at hSw); (try go_split_ands); go_simp; try with_reducible rfl)
    try simp only [List.getElem_toArray, List.getElem_cons_succ, List.getElem_cons_zero, Act.put, List.setIfInBounds_toArray, List.set_cons_zero, List.set_cons_succ]
    refine wpAnyH_take (i := 42) (v := ?_) rfl (by kernel_rfl) (by kernel_rfl) (by kernel_rfl) (fun _ _ _ h => h) (Or.inl ⟨by rfl, ?_⟩) hHeld ?_
    rotate_left
    · (intro wS hSw; (try dsimp only at hSw); (try go_split_ands); go_simp; try with_reducible rfl)
    try simp only [List.getElem_toArray, List.getElem_cons_succ, List.getElem_cons_zero, Act.put, List.setIfInBounds_toArray, List.set_cons_zero, List.set_cons_succ]
    refine wpAnyH_take (i := 43) (v := ?_) rfl (by kernel_rfl) (by kernel_rfl) (by kernel_rfl) (fun _ _ _ h => h) (Or.inl ⟨by rfl, ?_⟩) hHeld ?_
    rotate_left
    · (intro wS hSw; (try dsimp only at hSw); (try go_split_ands); go_simp; try with_reducible rfl)
    try simp only [List.getElem_toArray, List.getElem_cons_succ, List.getElem_cons_zero, Act.put, List.setIfInBounds_toArray, List.set_cons_zero, List.set_cons_succ]
    refine wpAnyH_take (i := 44) (v := ?_) rfl (by kernel_rfl) (by kernel_rfl) (by kernel_rfl) (fun _ _ _ h => h) (Or.inl ⟨by rfl, ?_⟩) hHeld ?_
    rotate_left
    · (intro wS hSw; (try dsimp only at hSw); (try go_split_ands); go_simp; try with_reducible rfl)
    try simp only [List.getElem_toArray, List.getElem_cons_succ, List.getElem_cons_zero, Act.put, List.setIfInBounds_toArray, List.set_cons_zero, List.set_cons_succ]
    refine wpAnyH_take (i := 45) (v := ?_) rfl (by kernel_rfl) (by kernel_rfl) (by kernel_rfl) (fun _ _ _ h => h) (Or.inl ⟨by rfl, ?_⟩) hHeld ?_
    rotate_left
    · (intro wS hSw; (try dsimp only at hSw); (try go_split_ands); go_simp; try with_reducible rfl)
    try simp only [List.getElem_toArray, List.getElem_cons_succ, List.getElem_cons_zero, Act.put, List.setIfInBounds_toArray, List.set_cons_zero, List.set_cons_succ]
    refine wpAnyH_take (i := 46) (v := ?_) rfl (by kernel_rfl) (by kernel_rfl) (by kernel_rfl) (fun _ _ _ h => h) (Or.inl ⟨by rfl, ?_⟩) hHeld ?_
    rotate_left
    · (intro wS hSw; (try dsimp only at hSw); (try go_split_ands); go_simp; try with_reducible rfl)
    try simp only [List.getElem_toArray, List.getElem_cons_succ, List.getElem_cons_zero, Act.put, List.setIfInBounds_toArray, List.set_cons_zero, List.set_cons_succ]
    refine wpAnyH_take (i := 47) (v := ?_) rfl (by kernel_rfl) (by kernel_rfl) (by kernel_rfl) (fun _ _ _ h => h) (Or.inl ⟨by rfl, ?_⟩) hHeld ?_
    rotate_left
    · (intro wS hSw; (try dsimp only at hSw); (try go_split_ands); go_simp; try with_reducible rfl)
    try simp only [List.getElem_toArray, List.getElem_cons_succ, List.getElem_cons_zero, Act.put, List.setIfInBounds_toArray, List.set_cons_zero, List.set_cons_succ]
    refine wpAnyH_take (i := 48) (v := ?_) rfl (by kernel_rfl) (by kernel_rfl) (by kernel_rfl) (fun _ _ _ h => h) (Or.inl ⟨by rfl, ?_⟩) hHeld ?_
    rotate_left
    · (intro wS hSw; (try dsimp only at hSw); (try go_split_ands); go_simp; try with_reducible rfl)
    try simp only [List.getElem_toArray, List.getElem_cons_succ, List.getElem_cons_zero, Act.put, List.setIfInBounds_toArray, List.set_cons_zero, List.set_cons_succ]
    refine wpAnyH_take (i := 49) (v := ?_) rfl (by kernel_rfl) (by kernel_rfl) (by kernel_rfl) (fun _ _ _ h => h) (Or.inl ⟨by rfl, ?_⟩) hHeld ?_
    rotate_left
    · (intro wS hSw; (try dsimp only at hSw); (try go_split_ands); go_simp; try with_reducible rfl)
    try simp only [List.getElem_toArray, List.getElem_cons_succ, List.getElem_cons_zero, Act.put, List.setIfInBounds_toArray, List.set_cons_zero, List.set_cons_succ]
    refine wpAnyH_take (i := 50) (v := ?_) rfl (by kernel_rfl) (by kernel_rfl) (by kernel_rfl) (fun _ _ _ h => h) (Or.inl ⟨by rfl, ?_⟩) hHeld ?_
    rotate_left
    · (intro wS hSw; (try dsimp only at hSw); (try go_split_ands); go_simp; try with_reducible rfl)
    try simp only [List.getElem_toArray, List.getElem_cons_succ, List.getElem_cons_zero, Act.put, List.setIfInBounds_toArray, List.set_cons_zero, List.set_cons_succ]
    refine wpAnyH_take (i := 51) (v := ?_) rfl (by kernel_rfl) (by kernel_rfl) (by kernel_rfl) (fun _ _ _ h => h) (Or.inl ⟨by rfl, ?_⟩) hHeld ?_
    rotate_left
    · (intro wS hSw; (try dsimp only at hSw); (try go_split_ands); go_simp; try with_reducible rfl)
    try simp only [List.getElem_toArray, List.getElem_cons_succ, List.getElem_cons_zero, Act.put, List.setIfInBounds_toArray, List.set_cons_zero, List.set_cons_succ]
    refine wpAnyH_ready (rs := [52]) (by kernel_rfl) (by simp) ?_
    refine AllReadyH.cons rfl (fun K hK => ?_) AllReadyH.nil
    go_simp
    refine (ca _).mono ?_
    rintro e wm ⟨rfl, hb⟩
    refine hK.out _ _ ?_ (fun hNext => ?_)
    · exact rs_keep14 (by assumption) hb
    clear hK K hHeld
    have hHeld := hNext
    clear hNext
    try simp only [List.getElem_toArray, List.getElem_cons_succ, List.getElem_cons_zero, Act.put, List.setIfInBounds_toArray, List.set_cons_zero, List.set_cons_succ]
    refine wpAnyH_take (i := 53) (v := ?_) rfl (by kernel_rfl) (by kernel_rfl) (by kernel_rfl) (fun _ _ _ h => h) (Or.inl ⟨by rfl, ?_⟩) hHeld ?_
    rotate_left
    · (intro wS hSw; (try dsimp only at hSw); (try go_split_ands); go_simp; try with_reducible rfl)
    try simp only [List.getElem_toArray, List.getElem_cons_succ, List.getElem_cons_zero, Act.put, List.setIfInBounds_toArray, List.set_cons_zero, List.set_cons_succ]
    refine wpAnyH_take (i := 54) (v := ?_) rfl (by kernel_rfl) (by kernel_rfl) (by kernel_rfl) (fun _ _ _ h => h) (Or.inl ⟨by rfl, ?_⟩) hHeld ?_
    rotate_left
    · (intro wS hSw; (try dsimp only at hSw); (try go_split_ands); go_simp; try with_reducible rfl)
    try simp only [List.getElem_toArray, List.getElem_cons_succ, List.getElem_cons_zero, Act.put, List.setIfInBounds_toArray, List.set_cons_zero, List.set_cons_succ]
    refine wpAnyH_done (by kernel_rfl) ?_ _
    have hfin := rs_b14 (by assumption)
    go_wp2_with (fail)
    go_ret
    exact ⟨rfl, bel2 HB7.out hfin⟩

set_option maxRecDepth 100000 in
theorem lifted (os : Os) (started : os.Started) (H : Type) (enc : TypeId × Value → H) :
    ReturnsInHanded {} Try.checked os 5 .any (Rows.leafRangesSpec.pre6 enc Try.prog Try.f5 Rows.leafRangesRow.domain false) (Rows.leafRangesSpec.post enc Try.prog Try.f5 false true false false) := by
  refine returnsInHanded_of_change (C := Try.checked) own started (by kernel_rfl) Try.func5
    (ChangeSpec.witness6 (enc := enc) (C := Try.checked) false ⟨#[], #[.slice none 0 0, .int .i64 0, .int .i64 0, .int .i64 0], []⟩ 8 (by kernel_rfl) (by kernel_rfl) (by kernel_rfl) (by kernel_rfl)) ?_
  intro W base args ds gs before hval0 hW hcnd _
  have hval : ∀ (j : Nat) t v, Try.f5.params[j]? = some t → args[j]? = some v → Value.okWide Try.prog W .any base t v := hval0
  have hW' := hW
  obtain ⟨p, q, hA0, hV, rfl, hfz, hnd⟩ := hW
  have hA : DataW.TrodAll enc Try.prog W 0 (fun _ => true) true Try.f5.params.toList args.toList ds p := hA0
  rw [Try.params5] at hA hval
  obtain ⟨v0, vs0, d0, ds0, p0, q0, hargs, rfl, rfl, h0, r0⟩ := trodAll_cons hA
  obtain ⟨v1, vs1, d1, ds1, p1, q1, rfl, rfl, rfl, h1, r1⟩ := trodAll_cons r0
  obtain ⟨v2, vs2, d2, ds2, p2, q2, rfl, rfl, rfl, h2, r2⟩ := trodAll_cons r1
  obtain ⟨v3, vs3, d3, ds3, p3, q3, rfl, rfl, rfl, h3, r3⟩ := trodAll_cons r2
  obtain ⟨rfl, rfl, rfl⟩ := trodAll_nil r3
  obtain rfl : args = #[v0, v1, v2, v3] := by cases args; simp_all
  obtain ⟨rfl, rfl⟩ := trodVars_none hV
  have k0 := h0
  have lt0 : ∀ x ∈ p0, x.block < W.heap.size := by obtain ⟨m, hm⟩ := k0; exact DataW.trod_lt m _ _ _ hm
  obtain ⟨b0, l0, c0, rfl⟩ := okWide_slice Try.underlying22 (hval 0 22 v0 rfl rfl)
  obtain ⟨a0, cap0, z0, e0, w0, g0⟩ := open_pairsw (enc := enc) (w := W) (v := .slice b0 l0 c0) (fuel := h0.choose) (by simpa [Value.cells] using h0.choose_spec)
  rw [e0] at hval k0 h0 hW' hval0 hA0
  have k1 := h1
  have lt1 : ∀ x ∈ p1, x.block < W.heap.size := by obtain ⟨m, hm⟩ := k1; exact DataW.trod_lt m _ _ _ hm
  obtain ⟨a1, rfl, rfl, rfl, w1⟩ := open_int Try.underlying3 (hval 1 3 v1 rfl rfl) h1
  have k2 := h2
  have lt2 : ∀ x ∈ p2, x.block < W.heap.size := by obtain ⟨m, hm⟩ := k2; exact DataW.trod_lt m _ _ _ hm
  obtain ⟨a2, rfl, rfl, rfl, w2⟩ := open_int Try.underlying3 (hval 2 3 v2 rfl rfl) h2
  have k3 := h3
  have lt3 : ∀ x ∈ p3, x.block < W.heap.size := by obtain ⟨m, hm⟩ := k3; exact DataW.trod_lt m _ _ _ hm
  obtain ⟨a3, rfl, rfl, rfl, w3⟩ := open_int Try.underlying3 (hval 3 3 v3 rfl rfl) h3
  clear hA0 hval0
  rw [e0]; refine (walk a0 cap0 z0 a1 a2 a3 W w0 g0 w1 w2 w3).mono fun e W' ⟨he, bel⟩ => ?_
  subst he
  exact ⟨_, rfl, _, _, _, [], _, [], hW', trodAll_mk1 (shut_bool Try.underlying4 _), (trodAll_cons_mk (Below.trod laidOut (by kernel_rfl) (of_decide_eq_true (by kernel_rfl)) k0 bel lt0) (trodAll_cons_mk (Below.trod laidOut (by kernel_rfl) (of_decide_eq_true (by kernel_rfl)) k1 bel lt1) (trodAll_cons_mk (Below.trod laidOut (by kernel_rfl) (of_decide_eq_true (by kernel_rfl)) k2 bel lt2) (trodAll_cons_mk (Below.trod laidOut (by kernel_rfl) (of_decide_eq_true (by kernel_rfl)) k3 bel lt3) trodAll_mk0)))), rfl, bel.frame _, fun h => by cases h⟩

theorem over : Rows.leafRangesRow.holds Try.pinned (OpenSpec.ofChange Rows.leafRangesSpec) :=
  OpenClaim.holds_of_wide 5 Try.f5 rfl rfl rfl rfl rfl rfl rfl ⟨rfl, rfl, rfl, rfl, rfl⟩ rfl rfl rfl rfl rfl (by kernel_rfl) Try.func5 (by kernel_rfl)
    (of_decide_eq_true (by kernel_rfl)) (by unfold Func.isWrapper; first | (rw [if_pos (by decide +kernel)]; kernel_rfl) | (rw [if_neg (by decide +kernel)]; exact ⟨rfl, rfl⟩))
    (fun os started H enc _ => lifted os started H enc)

theorem leafRangesHolds : Rows.LeafRangesSaid := over
#print axioms leafRangesHolds
end Go.Proofs.Ytipcjkfecppanaa.leafRanges
