/- LeafReads (P13.2): on up to 100 pairs whose keys rise, an operation that only reads leaves the pairs; an update tells what OGet told before it, done once more it tells what OGet tells behind it and leaves the same pairs, and the key is there behind it just if it was no cut. No condition. -/
import Derived.Test.YtipcjkfecppanaaRows
import Derived.Test.YtipcjkfecppanaaLrD
import Derived.Test.YtipcjkfecppanaaLfS
import Derived.Test.YtipcjkfecppanaaLfW
import Derived.Test.YtipcjkfecppanaaLfZ
import Derived.Test.YtipcjkfecppanaaLfN
import Derived.LoopTactic
import Derived.WalkKit
import Derived.ProofKit
import Derived.OpenShut
import Derived.ChangeOld
import Derived.Below
namespace Go.Proofs.Ytipcjkfecppanaa.leafReads
open Go.ChangeShapes Go.WideShapes Go.ChangeAt Go.RowKit
set_option linter.all false

theorem own : ownKnob Try.prog.godebug = none := by kernel_rfl
theorem laidOut : laidOutB Try.prog = true := by kernel_rfl

theorem row_prs2 {W : World} {S : Nat → Prop} {a : Option Addr} {cap : Nat} {l : List Pr} (h : PRow W S (.slice a l.length cap) l) : Prs W a cap l := h.prs rfl
/-- leaf.Do: what it leaves, what it tells, each to be read. -/
theorem do_get {W : World} {a : Option Addr} {cap : Nat} {l : List Pr} (h : Prs W a cap l) (hs : Srt l) (hl : l.length ≤ 200) (k : Int) {x : Bool × Int × Int} (hx : hadL l k = x) :
    Calls Try.prog 9 #[.slice a l.length cap, .agg #[.int .i64 4, .int .i64 k, .int .i64 0, .int .i64 0]] W fun e w' => ∃ ao cp aa ca, e = .returned (.tuple #[.slice ao l.length cp, .agg #[.int .i64 0, .bool x.1, .int .i64 x.2.1, .int .i64 x.2.2, .int .i64 0, .slice aa 0 ca]]) ∧ Prs w' aa ca [] ∧ Below W.heap.size W w' := by
  have c := ldo_any a cap l 4 k 0 0 W h (by omega)
  rw [doP_read hs (by decide) k 0 (by decide), doA_had hs (by decide) k 0 (by decide)] at c
  subst hx
  exact c.mono (fun e w' hh => by obtain ⟨ao, cp, aa, ca, rfl, _, h2, h3⟩ := hh; exact ⟨ao, cp, aa, ca, rfl, h2.prs rfl, h3⟩)
theorem do_upd2 {W : World} {a : Option Addr} {cap : Nat} {l m : List Pr} {c k hi v : Int} (h : Prs W a cap l) (hs : Srt l) (ho : okOp c) (h3 : c ≤ 3) (hl : l.length ≤ 200) {x : Bool × Int × Int} (hx : hadL l k = x) (hm : doP l c k v = m) :
    Calls Try.prog 9 #[.slice a l.length cap, .agg #[.int .i64 c, .int .i64 k, .int .i64 hi, .int .i64 v]] W fun e w' => ∃ ao cp aa ca, e = .returned (.tuple #[.slice ao m.length cp, .agg #[.int .i64 0, .bool x.1, .int .i64 x.2.1, .int .i64 x.2.2, .int .i64 0, .slice aa 0 ca]]) ∧ Prs w' ao cp m ∧ Prs w' aa ca [] ∧ Below W.heap.size W w' := by
  have c' := ldo_any a cap l c k hi v W h (by omega)
  rw [doA_had hs ho k hi (by omega), hm] at c'
  subst hx
  exact c'.mono (fun e w' hh => by obtain ⟨ao, cp, aa, ca, rfl, h1, h2, h3⟩ := hh; exact ⟨ao, cp, aa, ca, rfl, h1.prs rfl, h2.prs rfl, h3⟩)
theorem do_rd {W : World} {a : Option Addr} {cap : Nat} {l : List Pr} {c k hi v : Int} (h : Prs W a cap l) (hs : Srt l) (ho : okOp c) (h3 : ¬ c ≤ 3) (hl : l.length ≤ 200) :
    Calls Try.prog 9 #[.slice a l.length cap, .agg #[.int .i64 c, .int .i64 k, .int .i64 hi, .int .i64 v]] W fun e w' => ∃ (ao : Option Addr) (cp : Nat) (aa : Option Addr) (n : Nat) (D : Ad), e = .returned (.tuple #[.slice ao l.length cp, .agg #[.int .i64 D.err, .bool D.ok, .int .i64 D.k, .int .i64 D.v, .int .i64 D.n, .slice aa D.ps.length n]]) ∧ Prs w' ao cp l ∧ Below W.heap.size W w' := by
  have c' := ldo_any a cap l c k hi v W h (by omega)
  rw [doP_read hs ho k v (by omega)] at c'
  exact c'.mono (fun e w' hh => by obtain ⟨ao, cp, aa, ca, rfl, h1, h2, h3⟩ := hh; exact ⟨ao, cp, aa, ca, _, rfl, h1.prs rfl, h3⟩)
theorem same_ad {W : World} {a a' : Option Addr} {c c' : Nat} (o : Bool) (k v : Int) (h : Prs W a c []) (h' : Prs W a' c' []) :
    Calls Try.prog 12 #[.agg #[.int .i64 0, .bool o, .int .i64 k, .int .i64 v, .int .i64 0, .slice a 0 c], .agg #[.int .i64 0, .bool o, .int .i64 k, .int .i64 v, .int .i64 0, .slice a' 0 c']] W fun e w' => e = .returned (.bool true) ∧ Below W.heap.size W w' :=
  rsame_ans ⟨0, o, k, v, 0, []⟩ ⟨0, o, k, v, 0, []⟩ a a' c c' W h h' true (decide_eq_true (AdEq.refl _))
theorem opb {w : World} (c k hi v : Int) : Blk (w.alloc (.cells #[.int .i64 c, .int .i64 k, .int .i64 hi, .int .i64 v] 24)) w.heap.size [.int .i64 c, .int .i64 k, .int .i64 hi, .int .i64 v] := Blk.new w _ _

set_option maxRecDepth 100000 in
set_option maxHeartbeats 12800000 in
theorem walk (a0 : Option Addr) (cap0 : Nat) (z0 : List Pr) (o1 : OpD) (w : World) (w0 : Prs w a0 cap0 z0) (w1 : o1.wf) :
    Calls Try.prog 6 #[.slice a0 z0.length cap0, .agg #[.int .i64 o1.c, .int .i64 o1.k, .int .i64 o1.h, .int .i64 o1.v]] w fun e w' => e = .returned (.bool true) ∧ Below w.heap.size w w' := by
  obtain ⟨c, k, hi, v⟩ := o1
  dsimp only
  have H0 := Lib.hid w0
  have hc := w0.1
  have hcm := w0.2.1
  unfold maxLen at hcm
  clear w0 w1
  have ca := fun W => awake_any W
  have ba := Lib.hid (bel1 (Below.refl _ w) (.cells #[.int .i64 c, .int .i64 k, .int .i64 hi, .int .i64 v] 24))
  by_cases hbig : 100 < z0.length
  · have hbig' : (100 : Int) < (z0.length : Int) := by omega
    go_enter Try.func6, Try.ntmps6
    go_wp2_with (go_at_call 8; ((with_reducible refine (ca _).mono ?_); rintro e w3 ⟨rfl, hb⟩))
    go_ret
    exact ⟨rfl, bel2 ba.out hb⟩
  have hbig' : ¬ (100 : Int) < (z0.length : Int) := by omega
  have HL : Hid (z0.length ≤ 100) := Lib.hid (by omega)
  clear hbig
  have cm := fun W h => rmay_any a0 cap0 z0 W h _ rfl
  by_cases hs : Srt z0
  rotate_left
  · rw [decide_eq_false hs] at cm
    go_enter Try.func6, Try.ntmps6
    go_wp2_with (first
      | (go_at_call 14; ((with_reducible refine (cm _ (H0.out.below ba.out)).mono ?_); rintro e w1 ⟨rfl, hb1⟩))
      | (go_at_call 8; ((with_reducible refine (ca _).mono ?_); rintro e w3 ⟨rfl, hb⟩)))
    go_ret
    exact ⟨rfl, bel2 (bel2 ba.out hb1) hb⟩
  rw [decide_eq_true hs] at cm
  have co := fun W => rmayop_any c k hi v W _ rfl
  have P0 := Lib.hid (opb (w := w) c k hi v)
  by_cases ho : okOp c
  rotate_left
  · rw [decide_eq_false ho] at co
    go_enter Try.func6, Try.ntmps6
    go_wp2_with (first
      | (go_at_call 14; ((with_reducible refine (cm _ (H0.out.below ba.out)).mono ?_); rintro e w1 ⟨rfl, hb1⟩; have P1 := P0.out.keep hb1; have p0 := P1 0 _ rfl; have p1 := P1 1 _ rfl; have p2 := P1 2 _ rfl; have p3 := P1 3 _ rfl))
      | (go_at_call 16; ((with_reducible refine (co _).mono ?_); rintro e w2 ⟨rfl, hb2⟩))
      | (go_at_call 8; ((with_reducible refine (ca _).mono ?_); rintro e w3 ⟨rfl, hb⟩)))
    go_ret
    exact ⟨rfl, bel2 (bel2 (bel2 ba.out hb1) hb2) hb⟩
  rw [decide_eq_true ho] at co
  have START := True.intro
  by_cases h3 : c ≤ 3
  rotate_left
  · have cu := fun W => lupd_any c k hi v W false (decide_eq_false (fun hh => h3 hh.2))
    have cd := fun W h => do_rd (W := W) (a := a0) (cap := cap0) (l := z0) (c := c) (k := k) (hi := hi) (v := v) h hs ho h3 (by have := HL.out; omega)
    clear hs ho h3 START
    go_enter Try.func6, Try.ntmps6
    go_wp2_with (first
      | (go_at_call 14; ((with_reducible refine (cm _ (H0.out.below ba.out)).mono ?_); rintro e w1 ⟨rfl, hb1⟩; have P1 := P0.out.keep hb1; have p0 := P1 0 _ rfl; have p1 := P1 1 _ rfl; have p2 := P1 2 _ rfl; have p3 := P1 3 _ rfl))
      | (go_at_call 16; ((with_reducible refine (co _).mono ?_); rintro e w2 ⟨rfl, hb2⟩; have HB2 := Lib.hid (bel2 (bel2 ba.out hb1) hb2); have HP2 := Lib.hid (P1.keep hb2); clear P1 p0 p1 p2 p3 hb1 hb2; have p0 := HP2.out 0 _ rfl; have p1 := HP2.out 1 _ rfl; have p2 := HP2.out 2 _ rfl; have p3 := HP2.out 3 _ rfl))
      | (go_at_call 9; ((with_reducible refine (cd _ (H0.out.below HB2.out)).mono ?_); rintro e w4 ⟨ao, cp, aa, n, D, rfl, hP, hb4⟩; have HP4 := Lib.hid ((HP2.out.keep hb4).past (.cells #[.int .i64 D.err, .bool D.ok, .int .i64 D.k, .int .i64 D.v, .int .i64 D.n, .slice aa D.ps.length n] 29)); have HB4 := Lib.hid (bel1 (bel2 HB2.out hb4) (.cells #[.int .i64 D.err, .bool D.ok, .int .i64 D.k, .int .i64 D.v, .int .i64 D.n, .slice aa D.ps.length n] 29)); have HR := Lib.hid (hP.below (bel1 (Below.refl _ w4) (.cells #[.int .i64 D.err, .bool D.ok, .int .i64 D.k, .int .i64 D.v, .int .i64 D.n, .slice aa D.ps.length n] 29))); clear p0 p1 p2 p3 hb4 hP; have p0 := HP4.out 0 _ rfl; have p1 := HP4.out 1 _ rfl; have p2 := HP4.out 2 _ rfl; have p3 := HP4.out 3 _ rfl))
      | (go_at_call 17; ((with_reducible refine (cu _).mono ?_); rintro e w5 ⟨rfl, hb5⟩))
      | (go_at_call 11; ((with_reducible refine (samep_any a0 ao cap0 cp z0 z0 _ (H0.out.below (bel2 HB4.out hb5)) (HR.out.below hb5) true (decide_eq_true rfl)).mono ?_); rintro e w6 ⟨rfl, hb6⟩))
      | (go_at_call 8; ((with_reducible refine (ca _).mono ?_); rintro e w7 ⟨rfl, hb⟩)))
    go_ret
    exact ⟨rfl, bel2 (bel2 (bel2 HB4.out hb5) hb6) hb⟩
  have cu := fun W => lupd_any c k hi v W true (decide_eq_true ⟨ho.1, h3⟩)
  obtain ⟨m, hm⟩ : ∃ m, doP z0 c k v = m := ⟨_, rfl⟩
  obtain ⟨x, hx⟩ : ∃ x, hadL z0 k = x := ⟨_, rfl⟩
  obtain ⟨y, hy⟩ : ∃ y, hadL m k = y := ⟨_, rfl⟩
  have hms : Srt m := by rw [← hm]; exact doP_srt hs ho k v
  have hml : m.length ≤ 200 := by
    have h9 := doP_len hs ho k v
    rw [hm] at h9
    have := HL.out
    omega
  have htw : doP m c k v = m := by rw [← hm]; exact doP_twice hs ho k v h3
  have hok : y.1 = (c != 3) := by rw [← hy, ← hm]; exact had_ok hs ho k v h3
  have cd := fun W h => do_upd2 (W := W) (a := a0) (cap := cap0) (l := z0) (c := c) (k := k) (hi := hi) (v := v) h hs ho h3 (by have := HL.out; omega) hx hm
  have cg := fun W h => do_get (W := W) (a := a0) (cap := cap0) (l := z0) h hs (by have := HL.out; omega) k hx
  have cd2 := fun W a cap h => do_upd2 (W := W) (a := a) (cap := cap) (l := m) (c := c) (k := k) (hi := hi) (v := v) h hms ho h3 hml hy htw
  have cg2 := fun W a cap h => do_get (W := W) (a := a) (cap := cap) (l := m) h hms hml k hy
  obtain ⟨x0, x1, x2⟩ := x
  obtain ⟨y0, y1, y2⟩ := y
  dsimp only at cd cg cd2 cg2 hok
  have hok2 : (y0 == (c != 3)) = true := by rw [hok]; simp
  have HOK := Lib.hid hok2
  clear hs ho h3 START hm hx hy hms hml htw hok hok2
  go_enter Try.func6, Try.ntmps6
  go_wp2_with (first
    | (go_at_call 14; ((with_reducible refine (cm _ (H0.out.below ba.out)).mono ?_); rintro e w1 ⟨rfl, hb1⟩; have P1 := P0.out.keep hb1; have p0 := P1 0 _ rfl; have p1 := P1 1 _ rfl; have p2 := P1 2 _ rfl; have p3 := P1 3 _ rfl))
    | (go_at_call 16; ((with_reducible refine (co _).mono ?_); rintro e w2 ⟨rfl, hb2⟩; have HB2 := Lib.hid (bel2 (bel2 ba.out hb1) hb2); have HP2 := Lib.hid (P1.keep hb2); clear P1 p0 p1 p2 p3 hb1 hb2; have p0 := HP2.out 0 _ rfl; have p1 := HP2.out 1 _ rfl; have p2 := HP2.out 2 _ rfl; have p3 := HP2.out 3 _ rfl)))
  refine (cd _ (H0.out.below HB2.out)).mono ?_
  rintro e w4 ⟨ao, cp, aa, ca1, rfl, hP, hT, hb⟩
  clear p0 p1 p2 p3
  have HB4 := Lib.hid (bel1 (bel2 HB2.out hb) (.cells #[.int .i64 0, .bool x0, .int .i64 x1, .int .i64 x2, .int .i64 0, .slice aa 0 ca1] 29))
  have HP4 := Lib.hid ((HP2.out.keep hb).past (.cells #[.int .i64 0, .bool x0, .int .i64 x1, .int .i64 x2, .int .i64 0, .slice aa 0 ca1] 29))
  have HM4 := Lib.hid (hP.below (bel1 (Below.refl _ w4) (.cells #[.int .i64 0, .bool x0, .int .i64 x1, .int .i64 x2, .int .i64 0, .slice aa 0 ca1] 29)))
  have HT4 := Lib.hid (hT.below (bel1 (Below.refl _ w4) (.cells #[.int .i64 0, .bool x0, .int .i64 x1, .int .i64 x2, .int .i64 0, .slice aa 0 ca1] 29)))
  have HY4 := Lib.hid (Blk.new w4 #[.int .i64 0, .bool x0, .int .i64 x1, .int .i64 x2, .int .i64 0, .slice aa 0 ca1] 29)
  clear hP hT hb
  have p0 := HP4.out 0 _ rfl
  have p1 := HP4.out 1 _ rfl
  have p2 := HP4.out 2 _ rfl
  have p3 := HP4.out 3 _ rfl
  go_wp2_with (fail)
  refine (cu _).mono ?_
  rintro e w5 ⟨rfl, hb⟩
  clear p0 p1 p2 p3
  have HB5 := Lib.hid (bel2 HB4.out hb)
  have HP5 := Lib.hid (HP4.out.keep hb)
  have HM5 := Lib.hid (HM4.out.below hb)
  have HT5 := Lib.hid (HT4.out.below hb)
  have HY5 := Lib.hid (HY4.out.keep hb)
  clear hb
  have p1 := HP5.out 1 _ rfl
  go_wp2_with (fail)
  refine (cg _ (H0.out.below HB5.out)).mono ?_
  rintro e w6 ⟨ao6, cp6, aa6, ca6, rfl, hT, hb⟩
  clear p1
  have HB6 := Lib.hid (bel1 (bel2 HB5.out hb) (.cells #[.int .i64 0, .bool x0, .int .i64 x1, .int .i64 x2, .int .i64 0, .slice aa6 0 ca6] 29))
  have HP6 := Lib.hid ((HP5.out.keep hb).past (.cells #[.int .i64 0, .bool x0, .int .i64 x1, .int .i64 x2, .int .i64 0, .slice aa6 0 ca6] 29))
  have HM6 := Lib.hid ((HM5.out.below hb).below (bel1 (Below.refl _ w6) (.cells #[.int .i64 0, .bool x0, .int .i64 x1, .int .i64 x2, .int .i64 0, .slice aa6 0 ca6] 29)))
  have HT6 := Lib.hid ((HT5.out.below hb).below (bel1 (Below.refl _ w6) (.cells #[.int .i64 0, .bool x0, .int .i64 x1, .int .i64 x2, .int .i64 0, .slice aa6 0 ca6] 29)))
  have HU6 := Lib.hid (hT.below (bel1 (Below.refl _ w6) (.cells #[.int .i64 0, .bool x0, .int .i64 x1, .int .i64 x2, .int .i64 0, .slice aa6 0 ca6] 29)))
  have HY6 := Lib.hid ((HY5.out.keep hb).past (.cells #[.int .i64 0, .bool x0, .int .i64 x1, .int .i64 x2, .int .i64 0, .slice aa6 0 ca6] 29))
  have HV6 := Lib.hid (Blk.new w6 #[.int .i64 0, .bool x0, .int .i64 x1, .int .i64 x2, .int .i64 0, .slice aa6 0 ca6] 29)
  clear hT hb
  have p0 := HP6.out 0 _ rfl
  have p1 := HP6.out 1 _ rfl
  have p2 := HP6.out 2 _ rfl
  have p3 := HP6.out 3 _ rfl
  go_wp2_with (fail)
  refine (cd2 _ _ _ HM6.out).mono ?_
  rintro e w7 ⟨ao7, cp7, aa7, ca7, rfl, hP, hT, hb⟩
  clear p0 p1 p2 p3
  have HB7 := Lib.hid (bel1 (bel2 HB6.out hb) (.cells #[.int .i64 0, .bool y0, .int .i64 y1, .int .i64 y2, .int .i64 0, .slice aa7 0 ca7] 29))
  have HP7 := Lib.hid ((HP6.out.keep hb).past (.cells #[.int .i64 0, .bool y0, .int .i64 y1, .int .i64 y2, .int .i64 0, .slice aa7 0 ca7] 29))
  have HM7 := Lib.hid ((HM6.out.below hb).below (bel1 (Below.refl _ w7) (.cells #[.int .i64 0, .bool y0, .int .i64 y1, .int .i64 y2, .int .i64 0, .slice aa7 0 ca7] 29)))
  have HN7 := Lib.hid (hP.below (bel1 (Below.refl _ w7) (.cells #[.int .i64 0, .bool y0, .int .i64 y1, .int .i64 y2, .int .i64 0, .slice aa7 0 ca7] 29)))
  have HT7 := Lib.hid ((HT6.out.below hb).below (bel1 (Below.refl _ w7) (.cells #[.int .i64 0, .bool y0, .int .i64 y1, .int .i64 y2, .int .i64 0, .slice aa7 0 ca7] 29)))
  have HU7 := Lib.hid ((HU6.out.below hb).below (bel1 (Below.refl _ w7) (.cells #[.int .i64 0, .bool y0, .int .i64 y1, .int .i64 y2, .int .i64 0, .slice aa7 0 ca7] 29)))
  have HX7 := Lib.hid (hT.below (bel1 (Below.refl _ w7) (.cells #[.int .i64 0, .bool y0, .int .i64 y1, .int .i64 y2, .int .i64 0, .slice aa7 0 ca7] 29)))
  have HY7 := Lib.hid ((HY6.out.keep hb).past (.cells #[.int .i64 0, .bool y0, .int .i64 y1, .int .i64 y2, .int .i64 0, .slice aa7 0 ca7] 29))
  have HV7 := Lib.hid ((HV6.out.keep hb).past (.cells #[.int .i64 0, .bool y0, .int .i64 y1, .int .i64 y2, .int .i64 0, .slice aa7 0 ca7] 29))
  have HW7 := Lib.hid (Blk.new w7 #[.int .i64 0, .bool y0, .int .i64 y1, .int .i64 y2, .int .i64 0, .slice aa7 0 ca7] 29)
  clear hP hT hb
  have p1 := HP7.out 1 _ rfl
  go_wp2_with (fail)
  refine (cg2 _ _ _ HM7.out).mono ?_
  rintro e w8 ⟨ao8, cp8, aa8, ca8, rfl, hT, hb⟩
  clear p1
  have HB8 := Lib.hid (bel1 (bel2 HB7.out hb) (.cells #[.int .i64 0, .bool y0, .int .i64 y1, .int .i64 y2, .int .i64 0, .slice aa8 0 ca8] 29))
  have HP8 := Lib.hid ((HP7.out.keep hb).past (.cells #[.int .i64 0, .bool y0, .int .i64 y1, .int .i64 y2, .int .i64 0, .slice aa8 0 ca8] 29))
  have HM8 := Lib.hid ((HM7.out.below hb).below (bel1 (Below.refl _ w8) (.cells #[.int .i64 0, .bool y0, .int .i64 y1, .int .i64 y2, .int .i64 0, .slice aa8 0 ca8] 29)))
  have HN8 := Lib.hid ((HN7.out.below hb).below (bel1 (Below.refl _ w8) (.cells #[.int .i64 0, .bool y0, .int .i64 y1, .int .i64 y2, .int .i64 0, .slice aa8 0 ca8] 29)))
  have HT8 := Lib.hid ((HT7.out.below hb).below (bel1 (Below.refl _ w8) (.cells #[.int .i64 0, .bool y0, .int .i64 y1, .int .i64 y2, .int .i64 0, .slice aa8 0 ca8] 29)))
  have HU8 := Lib.hid ((HU7.out.below hb).below (bel1 (Below.refl _ w8) (.cells #[.int .i64 0, .bool y0, .int .i64 y1, .int .i64 y2, .int .i64 0, .slice aa8 0 ca8] 29)))
  have HX8 := Lib.hid ((HX7.out.below hb).below (bel1 (Below.refl _ w8) (.cells #[.int .i64 0, .bool y0, .int .i64 y1, .int .i64 y2, .int .i64 0, .slice aa8 0 ca8] 29)))
  have HQ8 := Lib.hid (hT.below (bel1 (Below.refl _ w8) (.cells #[.int .i64 0, .bool y0, .int .i64 y1, .int .i64 y2, .int .i64 0, .slice aa8 0 ca8] 29)))
  have HY8 := Lib.hid ((HY7.out.keep hb).past (.cells #[.int .i64 0, .bool y0, .int .i64 y1, .int .i64 y2, .int .i64 0, .slice aa8 0 ca8] 29))
  have HV8 := Lib.hid ((HV7.out.keep hb).past (.cells #[.int .i64 0, .bool y0, .int .i64 y1, .int .i64 y2, .int .i64 0, .slice aa8 0 ca8] 29))
  have HW8 := Lib.hid ((HW7.out.keep hb).past (.cells #[.int .i64 0, .bool y0, .int .i64 y1, .int .i64 y2, .int .i64 0, .slice aa8 0 ca8] 29))
  have HZ8 := Lib.hid (Blk.new w8 #[.int .i64 0, .bool y0, .int .i64 y1, .int .i64 y2, .int .i64 0, .slice aa8 0 ca8] 29)
  clear hT hb
  have fa0 := HY8.out 0 _ rfl
  have fa1 := HY8.out 1 _ rfl
  have fa2 := HY8.out 2 _ rfl
  have fa3 := HY8.out 3 _ rfl
  have fa4 := HY8.out 4 _ rfl
  have fa5 := HY8.out 5 _ rfl
  have fb0 := HV8.out 0 _ rfl
  have fb1 := HV8.out 1 _ rfl
  have fb2 := HV8.out 2 _ rfl
  have fb3 := HV8.out 3 _ rfl
  have fb4 := HV8.out 4 _ rfl
  have fb5 := HV8.out 5 _ rfl
  go_wp2_with (fail)
  refine (same_ad x0 x1 x2 HT8.out HU8.out).mono ?_
  rintro e w10 ⟨rfl, hb10⟩
  clear fa0 fa1 fa2 fa3 fa4 fa5 fb0 fb1 fb2 fb3 fb4 fb5
  have HW10 := Lib.hid (HW8.out.keep hb10)
  have HZ10 := Lib.hid (HZ8.out.keep hb10)
  have fa0 := HW10.out 0 _ rfl
  have fa1 := HW10.out 1 _ rfl
  have fa2 := HW10.out 2 _ rfl
  have fa3 := HW10.out 3 _ rfl
  have fa4 := HW10.out 4 _ rfl
  have fa5 := HW10.out 5 _ rfl
  have fb0 := HZ10.out 0 _ rfl
  have fb1 := HZ10.out 1 _ rfl
  have fb2 := HZ10.out 2 _ rfl
  have fb3 := HZ10.out 3 _ rfl
  have fb4 := HZ10.out 4 _ rfl
  have fb5 := HZ10.out 5 _ rfl
  go_wp2_with (fail)
  refine (same_ad y0 y1 y2 (HX8.out.below hb10) (HQ8.out.below hb10)).mono ?_
  rintro e w11 ⟨rfl, hb11⟩
  clear fa0 fa1 fa2 fa3 fa4 fa5 fb0 fb1 fb2 fb3 fb4 fb5
  go_wp2_with (fail)
  refine (samep_any ao7 ao cp7 cp m m _ ((HN8.out.below hb10).below hb11) ((HM8.out.below hb10).below hb11) true (decide_eq_true rfl)).mono ?_
  rintro e w12 ⟨rfl, hb12⟩
  have fb1 := (HZ10.out.keep hb11).keep hb12 1 _ rfl
  have p0 := ((HP8.out.keep hb10).keep hb11).keep hb12 0 _ rfl
  have hk := HOK.out
  have HB12 := Lib.hid (bel2 (bel2 (bel2 HB8.out hb10) hb11) hb12)
  clear hb10 hb11 hb12
  go_wp2_with (go_at_call 8; ((with_reducible refine (ca _).mono ?_); rintro e w13 ⟨rfl, hb⟩))
  go_ret
  exact ⟨rfl, bel2 HB12.out hb⟩

set_option maxRecDepth 100000 in
theorem lifted (os : Os) (started : os.Started) (H : Type) (enc : TypeId × Value → H) :
    ReturnsInHanded {} Try.checked os 6 .any (Rows.leafReadsSpec.pre6 enc Try.prog Try.f6 Rows.leafReadsRow.domain false) (Rows.leafReadsSpec.post enc Try.prog Try.f6 false true false false) := by
  refine returnsInHanded_of_change (C := Try.checked) own started (by kernel_rfl) Try.func6
    (ChangeSpec.witness6 (enc := enc) (C := Try.checked) false ⟨#[], #[.slice none 0 0, .agg #[.int .i64 0, .int .i64 0, .int .i64 0, .int .i64 0]], []⟩ 8 (by kernel_rfl) (by kernel_rfl) (by kernel_rfl) (by kernel_rfl)) ?_
  intro W base args ds gs before hval0 hW hcnd _
  have hval : ∀ (j : Nat) t v, Try.f6.params[j]? = some t → args[j]? = some v → Value.okWide Try.prog W .any base t v := hval0
  have hW' := hW
  obtain ⟨p, q, hA0, hV, rfl, hfz, hnd⟩ := hW
  have hA : DataW.TrodAll enc Try.prog W 0 (fun _ => true) true Try.f6.params.toList args.toList ds p := hA0
  rw [Try.params6] at hA hval
  obtain ⟨v0, vs0, d0, ds0, p0, q0, hargs, rfl, rfl, h0, r0⟩ := trodAll_cons hA
  obtain ⟨v1, vs1, d1, ds1, p1, q1, rfl, rfl, rfl, h1, r1⟩ := trodAll_cons r0
  obtain ⟨rfl, rfl, rfl⟩ := trodAll_nil r1
  obtain rfl : args = #[v0, v1] := by cases args; simp_all
  obtain ⟨rfl, rfl⟩ := trodVars_none hV
  have k0 := h0
  have lt0 : ∀ x ∈ p0, x.block < W.heap.size := by obtain ⟨m, hm⟩ := k0; exact DataW.trod_lt m _ _ _ hm
  obtain ⟨b0, l0, c0, rfl⟩ := okWide_slice Try.underlying22 (hval 0 22 v0 rfl rfl)
  obtain ⟨a0, cap0, z0, e0, w0⟩ := open_pairs (enc := enc) (w := W) (v := .slice b0 l0 c0) (fuel := h0.choose) (by simpa [Value.cells] using h0.choose_spec)
  rw [e0] at hval k0 h0 hW' hval0 hA0
  have k1 := h1
  have lt1 : ∀ x ∈ p1, x.block < W.heap.size := by obtain ⟨m, hm⟩ := k1; exact DataW.trod_lt m _ _ _ hm
  obtain ⟨u1, rfl, _⟩ := okWide_struct Try.underlying24 (hval 1 24 v1 rfl rfl)
  obtain ⟨o1, e1, w1⟩ := fields_op (enc := enc) (w := W) (cs := u1.toList) (fuel := h1.choose) (by simpa [Value.cells] using h1.choose_spec)
  obtain rfl : u1 = #[.int .i64 o1.c, .int .i64 o1.k, .int .i64 o1.h, .int .i64 o1.v] := by cases u1; simp_all
  clear hA0 hval0
  rw [e0]; refine (walk a0 cap0 z0 o1 W w0 w1).mono fun e W' ⟨he, bel⟩ => ?_
  subst he
  exact ⟨_, rfl, _, _, _, [], _, [], hW', trodAll_mk1 (shut_bool Try.underlying4 _), (trodAll_cons_mk (Below.trod laidOut (by kernel_rfl) (of_decide_eq_true (by kernel_rfl)) k0 bel lt0) (trodAll_cons_mk (Below.trod laidOut (by kernel_rfl) (of_decide_eq_true (by kernel_rfl)) k1 bel lt1) trodAll_mk0)), rfl, bel.frame _, fun h => by cases h⟩

theorem over : Rows.leafReadsRow.holds Try.pinned (OpenSpec.ofChange Rows.leafReadsSpec) :=
  OpenClaim.holds_of_wide 6 Try.f6 rfl rfl rfl rfl rfl rfl rfl ⟨rfl, rfl, rfl, rfl, rfl⟩ rfl rfl rfl rfl rfl (by kernel_rfl) Try.func6 (by kernel_rfl)
    (of_decide_eq_true (by kernel_rfl)) (by unfold Func.isWrapper; first | (rw [if_pos (by decide +kernel)]; kernel_rfl) | (rw [if_neg (by decide +kernel)]; exact ⟨rfl, rfl⟩))
    (fun os started H enc _ => lifted os started H enc)

theorem leafReadsHolds : Rows.LeafReadsSaid := over
#print axioms leafReadsHolds
end Go.Proofs.Ytipcjkfecppanaa.leafReads
