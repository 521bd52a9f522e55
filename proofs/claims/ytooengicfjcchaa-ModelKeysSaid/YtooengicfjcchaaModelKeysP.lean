/- ModelKeys (P16.1, P16.2): two operations of kinds put to get whose keys are unlike, done to maps of the same up to 100 pairs in either order, tell the same and leave the same pairs. No condition. -/
import Derived.Test.YtooengicfjcchaaRows
import Derived.Test.YtooengicfjcchaaMdK
import Derived.Deep.CutRange
import Derived.LoopTactic
import Derived.WalkKit
import Derived.ProofKit
import Derived.OpenShut
import Derived.ChangeOld
import Derived.Below
namespace Go.Proofs.Ytooengicfjcchaa.modelKeys
open Go.ChangeShapes Go.WideShapes Go.ChangeAt Go.RowKit
set_option linter.all false

theorem own : ownKnob Try.prog.godebug = none := by kernel_rfl
theorem laidOut : laidOutB Try.prog = true := by kernel_rfl

theorem mk_keep24 {W W' : World} {q0 q1 q2 q3 q4 q5 q6 q7 q8 q9 q10 q11 q12 q13 q14 q15 q16 q17 q18 q19 q20 q21 q22 q23 : Addr} {u0 u1 u2 u3 u4 u5 u6 u7 u8 u9 u10 u11 u12 u13 u14 u15 u16 u17 u18 u19 u20 u21 u22 u23 : Value} (h : W.cell? q0 = some u0 ∧ W.cell? q1 = some u1 ∧ W.cell? q2 = some u2 ∧ W.cell? q3 = some u3 ∧ W.cell? q4 = some u4 ∧ W.cell? q5 = some u5 ∧ W.cell? q6 = some u6 ∧ W.cell? q7 = some u7 ∧ W.cell? q8 = some u8 ∧ W.cell? q9 = some u9 ∧ W.cell? q10 = some u10 ∧ W.cell? q11 = some u11 ∧ W.cell? q12 = some u12 ∧ W.cell? q13 = some u13 ∧ W.cell? q14 = some u14 ∧ W.cell? q15 = some u15 ∧ W.cell? q16 = some u16 ∧ W.cell? q17 = some u17 ∧ W.cell? q18 = some u18 ∧ W.cell? q19 = some u19 ∧ W.cell? q20 = some u20 ∧ W.cell? q21 = some u21 ∧ W.cell? q22 = some u22 ∧ W.cell? q23 = some u23) (hb : Below W.heap.size W W') : W'.cell? q0 = some u0 ∧ W'.cell? q1 = some u1 ∧ W'.cell? q2 = some u2 ∧ W'.cell? q3 = some u3 ∧ W'.cell? q4 = some u4 ∧ W'.cell? q5 = some u5 ∧ W'.cell? q6 = some u6 ∧ W'.cell? q7 = some u7 ∧ W'.cell? q8 = some u8 ∧ W'.cell? q9 = some u9 ∧ W'.cell? q10 = some u10 ∧ W'.cell? q11 = some u11 ∧ W'.cell? q12 = some u12 ∧ W'.cell? q13 = some u13 ∧ W'.cell? q14 = some u14 ∧ W'.cell? q15 = some u15 ∧ W'.cell? q16 = some u16 ∧ W'.cell? q17 = some u17 ∧ W'.cell? q18 = some u18 ∧ W'.cell? q19 = some u19 ∧ W'.cell? q20 = some u20 ∧ W'.cell? q21 = some u21 ∧ W'.cell? q22 = some u22 ∧ W'.cell? q23 = some u23 := by
  obtain ⟨h0, h1, h2, h3, h4, h5, h6, h7, h8, h9, h10, h11, h12, h13, h14, h15, h16, h17, h18, h19, h20, h21, h22, h23⟩ := h
  exact ⟨cell_keep h0 hb, cell_keep h1 hb, cell_keep h2 hb, cell_keep h3 hb, cell_keep h4 hb, cell_keep h5 hb, cell_keep h6 hb, cell_keep h7 hb, cell_keep h8 hb, cell_keep h9 hb, cell_keep h10 hb, cell_keep h11 hb, cell_keep h12 hb, cell_keep h13 hb, cell_keep h14 hb, cell_keep h15 hb, cell_keep h16 hb, cell_keep h17 hb, cell_keep h18 hb, cell_keep h19 hb, cell_keep h20 hb, cell_keep h21 hb, cell_keep h22 hb, cell_keep h23 hb⟩

set_option maxRecDepth 100000 in
set_option maxHeartbeats 12800000 in
theorem walk (a0 : Option Addr) (cap0 : Nat) (z0 : List Pr) (o1 : OpD) (o2 : OpD) (w : World) (w0 : Prs w a0 cap0 z0) (w1 : o1.wf) (w2 : o2.wf) :
    Calls Try.prog 5 #[.slice a0 z0.length cap0, .agg #[.int .i64 o1.c, .int .i64 o1.k, .int .i64 o1.h, .int .i64 o1.v], .agg #[.int .i64 o2.c, .int .i64 o2.k, .int .i64 o2.h, .int .i64 o2.v]] w fun e w' => e = .returned (.bool true) ∧ Below w.heap.size w w' := by
  have H0 := Lib.hid w0
  have hc := w0.1
  have hcm := w0.2.1
  have HWF := Lib.hid (And.intro w1 w2)
  unfold maxLen at hcm
  clear w0 w1 w2
  have ca := fun W => awake_any W
  have ba := Lib.hid (bel1 (bel1 (Below.refl _ w) (.cells #[.int .i64 o1.c, .int .i64 o1.k, .int .i64 o1.h, .int .i64 o1.v] 33)) (.cells #[.int .i64 o2.c, .int .i64 o2.k, .int .i64 o2.h, .int .i64 o2.v] 33))
  by_cases hbig : 100 < z0.length
  · have hbig1 : (100 : Int) < (z0.length : Int) := by omega
    have hbig2 : decide ((100 : Int) < (z0.length : Int)) = true := decide_eq_true hbig1
    go_enter Try.func5, Try.ntmps5
    go_wp2_with (go_at_call 9; ((with_reducible refine (ca _).mono ?_); rintro e w3 ⟨rfl, hb⟩))
    go_ret
    exact ⟨rfl, bel2 ba.out hb⟩
  have hbig1 : ¬ (100 : Int) < (z0.length : Int) := by omega
  have hbig2 : decide ((100 : Int) < (z0.length : Int)) = false := decide_eq_false hbig1
  by_cases hc1 : o1.c < 1
  · have hc1d : decide (o1.c < 1) = true := decide_eq_true hc1
    go_enter Try.func5, Try.ntmps5
    go_wp2_with (go_at_call 9; ((with_reducible refine (ca _).mono ?_); rintro e w3 ⟨rfl, hb⟩))
    go_ret
    exact ⟨rfl, bel2 ba.out hb⟩
  have hc1d : decide (o1.c < 1) = false := decide_eq_false hc1
  by_cases hc2 : o2.c < 1
  · have hc2d : decide (o2.c < 1) = true := decide_eq_true hc2
    go_enter Try.func5, Try.ntmps5
    go_wp2_with (go_at_call 9; ((with_reducible refine (ca _).mono ?_); rintro e w3 ⟨rfl, hb⟩))
    go_ret
    exact ⟨rfl, bel2 ba.out hb⟩
  have hc2d : decide (o2.c < 1) = false := decide_eq_false hc2
  by_cases hc3 : 4 < o1.c
  · have hc3d : decide (4 < o1.c) = true := decide_eq_true hc3
    go_enter Try.func5, Try.ntmps5
    go_wp2_with (go_at_call 9; ((with_reducible refine (ca _).mono ?_); rintro e w3 ⟨rfl, hb⟩))
    go_ret
    exact ⟨rfl, bel2 ba.out hb⟩
  have hc3d : decide (4 < o1.c) = false := decide_eq_false hc3
  by_cases hc4 : 4 < o2.c
  · have hc4d : decide (4 < o2.c) = true := decide_eq_true hc4
    go_enter Try.func5, Try.ntmps5
    go_wp2_with (go_at_call 9; ((with_reducible refine (ca _).mono ?_); rintro e w3 ⟨rfl, hb⟩))
    go_ret
    exact ⟨rfl, bel2 ba.out hb⟩
  have hc4d : decide (4 < o2.c) = false := decide_eq_false hc4
  by_cases hkk : o1.k = o2.k
  · have hkd : (o1.k == o2.k) = true := beq_iff_eq.2 hkk
    have HKK := Lib.hid hkk
    clear hkk
    go_enter Try.func5, Try.ntmps5
    go_wp2_with (go_at_call 9; ((with_reducible refine (ca _).mono ?_); rintro e w3 ⟨rfl, hb⟩))
    go_ret
    exact ⟨rfl, bel2 ba.out hb⟩
  have hkd : (o1.k == o2.k) = false := beq_eq_false_iff_ne.2 hkk
  have HL : Hid ((putsL z0).length ≤ 100) := Lib.hid (by have := putsL_len z0; omega)
  have HSRT := Lib.hid (putsL_srt z0)
  have ho1 : okOp o1.c := ⟨by omega, by omega⟩
  have ho2 : okOp o2.c := ⟨by omega, by omega⟩
  have HA : Hid (runA (putsL z0) [o1, o2] = [hadD (putsL z0) o1.k, hadD (putsL z0) o2.k] ∧ runA (putsL z0) [o2, o1] = [hadD (putsL z0) o2.k, hadD (putsL z0) o1.k] ∧ runP (putsL z0) [o2, o1] = runP (putsL z0) [o1, o2]) :=
    Lib.hid ⟨(keys_A HSRT.out o1 o2 ho1 ho2 (by omega) (by omega) hkk).1, (keys_A HSRT.out o1 o2 ho1 ho2 (by omega) (by omega) hkk).2, keys_P HSRT.out o1 o2 ho1 ho2 hkk⟩
  have HR2 : Hid ((runP (putsL z0) [o1, o2]).length ≤ 102) := Lib.hid (by have h1 := runP_le (putsL z0) [o1, o2]; have h2 := HL.out; simp only [List.length_cons, List.length_nil] at h1; omega)
  have cn := fun W h => new_any a0 cap0 z0 W h (by omega)
  clear hbig
  generalize putsL z0 = L at *
  have HO1 : Hid (O4 w.heap.size o1.c o1.k o1.h o1.v ((w.alloc (.cells #[.int .i64 o1.c, .int .i64 o1.k, .int .i64 o1.h, .int .i64 o1.v] 33)).alloc (.cells #[.int .i64 o2.c, .int .i64 o2.k, .int .i64 o2.h, .int .i64 o2.v] 33)) ∧ O4 (w.heap.size + 1) o2.c o2.k o2.h o2.v ((w.alloc (.cells #[.int .i64 o1.c, .int .i64 o1.k, .int .i64 o1.h, .int .i64 o1.v] 33)).alloc (.cells #[.int .i64 o2.c, .int .i64 o2.k, .int .i64 o2.h, .int .i64 o2.v] 33))) := Lib.hid ⟨by constructor <;> simp, by constructor <;> simp⟩
  have hz2 : ((w.alloc (.cells #[.int .i64 o1.c, .int .i64 o1.k, .int .i64 o1.h, .int .i64 o1.v] 33)).alloc (.cells #[.int .i64 o2.c, .int .i64 o2.k, .int .i64 o2.h, .int .i64 o2.v] 33)).heap.size = w.heap.size + 1 + 1 := by simp
  have HZ2 := Lib.hid hz2
  clear hz2
  go_enter Try.func5, Try.ntmps5
  go_wp2_with (fail)
  refine (cn _ (H0.out.below ba.out)).mono ?_
  rintro e w2 ⟨b1, rfl, hb0, hM, hB⟩
  have HM1 := Lib.hid hM
  have HB1 := Lib.hid hB
  have HB01 := Lib.hid hb0
  clear hb0 hM hB
  go_wp2_with (fail)
  refine (cn _ (H0.out.below (bel2 ba.out HB1.out))).mono ?_
  rintro e w3 ⟨b2, rfl, hb0, hM, hB⟩
  have HK : Hid (KW w b1 b2 o1 o2 L L w3) := Lib.hid (by
    have hz := HZ2.out
    have h1 := HB01.out
    have h2 := HM1.out.lt
    have h3 := HB1.out.size
    refine ⟨(HM1.out.sub (.inr (.inl rfl)) (fun k hk hs => ?_)).below hB, hM.sub (.inr (.inr rfl)) (fun k hk hs => ?_), (HO1.out.1.keep HB1.out).keep hB, (HO1.out.2.keep HB1.out).keep hB, bel2 (bel2 ba.out HB1.out) hB, by omega, by omega⟩
    · rcases hs with hs | hs | hs
      · exact .inl (by omega)
      · exact .inr hs
      · omega
    · rcases hs with hs | hs | hs
      · exact .inl (by omega)
      · exact .inl (by omega)
      · exact .inr hs)
  clear HM1 HB1 HB01 hb0 hM hB cn HO1 hkk
  go_wp2_with (fail)
  go_cut [9, 10] from 46 to 55 (fun x y wx => ∃ gx gy, x = .slice (some ⟨gx, 0, none⟩) 2 2 ∧ y = .slice (some ⟨gy, 0, none⟩) 2 2 ∧ TR wx (fun _ => False) gx 2 (runA L [o1, o2]) ∧ TR wx (fun _ => False) gy 2 (runA L [o2, o1]) ∧ KW w b1 b2 o1 o2 (runP L [o1, o2]) (runP L [o2, o1]) wx)
  case first =>
    have HKd : Hid (KW w b1 b2 o1 o2 L L w3.drew) := Lib.hid (HK.out.below ((Below.refl _ _).drew))
    refine wp_region_held_drew (S := (fun W => O4 w.heap.size o1.c o1.k o1.h o1.v W ∧ O4 (w.heap.size + 1) o2.c o2.k o2.h o2.v W)) (by kernel_rfl) (by exact ⟨HKd.out.oa, HKd.out.ob⟩) (fun hHeld => ?_)
    refine wpAnyH_take (i := 0) (v := ?_) rfl (by kernel_rfl) (by kernel_rfl) (by kernel_rfl) (fun _ _ _ h => h) (Or.inl ⟨by rfl, ?_⟩) hHeld ?_
    rotate_left
    · (intro wS hSw; (obtain ⟨⟨s0, s1, s2, s3⟩, ⟨s4, s5, s6, s7⟩⟩ := hSw); go_simp; try with_reducible rfl)
    try simp only [List.getElem_toArray, List.getElem_cons_succ, List.getElem_cons_zero, Act.put, List.setIfInBounds_toArray, List.set_cons_zero, List.set_cons_succ]
    refine wpAnyH_take (i := 1) (v := ?_) rfl (by kernel_rfl) (by kernel_rfl) (by kernel_rfl) (fun _ _ _ h => h) (Or.inl ⟨by rfl, ?_⟩) hHeld ?_
    rotate_left
    · (intro wS hSw; (obtain ⟨⟨s0, s1, s2, s3⟩, ⟨s4, s5, s6, s7⟩⟩ := hSw); go_simp; try with_reducible rfl)
    try simp only [List.getElem_toArray, List.getElem_cons_succ, List.getElem_cons_zero, Act.put, List.setIfInBounds_toArray, List.set_cons_zero, List.set_cons_succ]
    refine wpAnyH_take (i := 2) (v := ?_) rfl (by kernel_rfl) (by kernel_rfl) (by kernel_rfl) (fun _ _ _ h => h) (Or.inl ⟨by rfl, ?_⟩) hHeld ?_
    rotate_left
    · (intro wS hSw; (obtain ⟨⟨s0, s1, s2, s3⟩, ⟨s4, s5, s6, s7⟩⟩ := hSw); go_simp; try with_reducible rfl)
    try simp only [List.getElem_toArray, List.getElem_cons_succ, List.getElem_cons_zero, Act.put, List.setIfInBounds_toArray, List.set_cons_zero, List.set_cons_succ]
    refine wpAnyH_take (i := 5) (v := ?_) rfl (by kernel_rfl) (by kernel_rfl) (by kernel_rfl) (fun _ _ _ h => h) (Or.inl ⟨by rfl, ?_⟩) hHeld ?_
    rotate_left
    · (intro wS hSw; (obtain ⟨⟨s0, s1, s2, s3⟩, ⟨s4, s5, s6, s7⟩⟩ := hSw); go_simp; try with_reducible rfl)
    try simp only [List.getElem_toArray, List.getElem_cons_succ, List.getElem_cons_zero, Act.put, List.setIfInBounds_toArray, List.set_cons_zero, List.set_cons_succ]
    refine wpAnyH_take (i := 6) (v := ?_) rfl (by kernel_rfl) (by kernel_rfl) (by kernel_rfl) (fun _ _ _ h => h) (Or.inl ⟨by rfl, ?_⟩) hHeld ?_
    rotate_left
    · (intro wS hSw; (obtain ⟨⟨s0, s1, s2, s3⟩, ⟨s4, s5, s6, s7⟩⟩ := hSw); go_simp; try with_reducible rfl)
    try simp only [List.getElem_toArray, List.getElem_cons_succ, List.getElem_cons_zero, Act.put, List.setIfInBounds_toArray, List.set_cons_zero, List.set_cons_succ]
    refine wpAnyH_take (i := 7) (v := ?_) rfl (by kernel_rfl) (by kernel_rfl) (by kernel_rfl) (fun _ _ _ h => h) (Or.inl ⟨by rfl, ?_⟩) hHeld ?_
    rotate_left
    · (intro wS hSw; (obtain ⟨⟨s0, s1, s2, s3⟩, ⟨s4, s5, s6, s7⟩⟩ := hSw); go_simp; try with_reducible rfl)
    try simp only [List.getElem_toArray, List.getElem_cons_succ, List.getElem_cons_zero, Act.put, List.setIfInBounds_toArray, List.set_cons_zero, List.set_cons_succ]
    clear HK
    generalize w3.drew = w4 at *
    refine wpAnyH_ready (rs := [3, 8]) (by kernel_rfl) (by simp) ?_
    refine AllReadyH.cons rfl (fun K hK => ?_) (AllReadyH.cons rfl (fun K hK => ?_) AllReadyH.nil)
    · skip
      go_simp
      have HK5 := Lib.hid (HKd.out.below (al1 (w := w4) (.cells #[.int .i64 o1.c, .int .i64 o1.k, .int .i64 o1.h, .int .i64 o1.v, .int .i64 o2.c, .int .i64 o2.k, .int .i64 o2.h, .int .i64 o2.v] 33)))
      have HZ5 : Hid (Ops (World.alloc w4 (.cells #[.int .i64 o1.c, .int .i64 o1.k, .int .i64 o1.h, .int .i64 o1.v, .int .i64 o2.c, .int .i64 o2.k, .int .i64 o2.h, .int .i64 o2.v] 33)) (some ⟨w4.heap.size, 0, none⟩) 2 [o1, o2]) := Lib.hid (by have h := ops2 w4 o1 o2 HWF.out.1 HWF.out.2; (try simp only [World.size_alloc] at h); exact h)
      refine hK.out _ _ ?_ (fun hNext => ?_)
      · exact ⟨HK5.out.oa, HK5.out.ob⟩
      clear hK K hHeld
      have hHeld := hNext
      clear hNext
      try simp only [List.getElem_toArray, List.getElem_cons_succ, List.getElem_cons_zero, Act.put, List.setIfInBounds_toArray, List.set_cons_zero, List.set_cons_succ]
      refine wpAnyH_ready (rs := [4, 8]) (by kernel_rfl) (by simp) ?_
      refine AllReadyH.cons rfl (fun K hK => ?_) (AllReadyH.cons rfl (fun K hK => ?_) AllReadyH.nil)
      · skip
        go_simp
        (go_at_call 15; ((with_reducible refine (KW.r1 HK5.out (w4.heap.size) 2 o1 o2 HZ5.out (show ¬ w4.heap.size = b1 from by (have h1 := HKd.out.m1.lt); (have h2 := HKd.out.m2.lt); (try simp only [World.size_alloc]); omega) HL.out).mono ?_); rintro e w6 ⟨rfl, hTT, hKW, hO⟩; have HT6 := Lib.hid hTT; have HK6 := Lib.hid hKW; have HO6 := Lib.hid hO; clear hO; clear hTT hKW))
        refine hK.out _ _ ?_ (fun hNext => ?_)
        · exact ⟨HK6.out.oa, HK6.out.ob⟩
        clear hK K hHeld
        have hHeld := hNext
        clear hNext
        try simp only [List.getElem_toArray, List.getElem_cons_succ, List.getElem_cons_zero, Act.put, List.setIfInBounds_toArray, List.set_cons_zero, List.set_cons_succ]
        refine wpAnyH_ready (rs := [8]) (by kernel_rfl) (by simp) ?_
        refine AllReadyH.cons rfl (fun K hK => ?_) AllReadyH.nil
        go_simp
        have HK7 := Lib.hid (HK6.out.below (al1 (w := w6) (.cells #[.int .i64 o2.c, .int .i64 o2.k, .int .i64 o2.h, .int .i64 o2.v, .int .i64 o1.c, .int .i64 o1.k, .int .i64 o1.h, .int .i64 o1.v] 33)))
        have HZ7 : Hid (Ops (World.alloc w6 (.cells #[.int .i64 o2.c, .int .i64 o2.k, .int .i64 o2.h, .int .i64 o2.v, .int .i64 o1.c, .int .i64 o1.k, .int .i64 o1.h, .int .i64 o1.v] 33)) (some ⟨w6.heap.size, 0, none⟩) 2 [o2, o1]) := Lib.hid (by have h := ops2 w6 o2 o1 HWF.out.2 HWF.out.1; (try simp only [World.size_alloc] at h); exact h)
        refine hK.out _ _ ?_ (fun hNext => ?_)
        · exact ⟨HK7.out.oa, HK7.out.ob⟩
        clear hK K hHeld
        have hHeld := hNext
        clear hNext
        try simp only [List.getElem_toArray, List.getElem_cons_succ, List.getElem_cons_zero, Act.put, List.setIfInBounds_toArray, List.set_cons_zero, List.set_cons_succ]
        refine wpAnyH_ready (rs := [9]) (by kernel_rfl) (by simp) ?_
        refine AllReadyH.cons rfl (fun K hK => ?_) AllReadyH.nil
        go_simp
        (go_at_call 15; ((with_reducible refine (KW.r2 HK7.out (w6.heap.size) 2 o2 o1 HZ7.out (show ¬ w6.heap.size = b2 from by (have h1 := HK6.out.m1.lt); (have h2 := HK6.out.m2.lt); (try simp only [World.size_alloc]); omega) HL.out).mono ?_); rintro e w8 ⟨rfl, hTT, hKW, hO⟩; have HT8 := Lib.hid hTT; have HK8 := Lib.hid hKW; have HO8 := Lib.hid hO; clear hO; clear hTT hKW))
        refine hK.out _ _ ?_ (fun hNext => ?_)
        · exact ⟨HK8.out.oa, HK8.out.ob⟩
        clear hK K hHeld
        have hHeld := hNext
        clear hNext
        try simp only [List.getElem_toArray, List.getElem_cons_succ, List.getElem_cons_zero, Act.put, List.setIfInBounds_toArray, List.set_cons_zero, List.set_cons_succ]
        refine wpAnyH_take (i := 10) (v := ?_) rfl (by kernel_rfl) (by kernel_rfl) (by kernel_rfl) (fun _ _ _ h => h) (Or.inl ⟨by rfl, ?_⟩) hHeld ?_
        rotate_left
        · (intro wS hSw; (obtain ⟨⟨s0, s1, s2, s3⟩, ⟨s4, s5, s6, s7⟩⟩ := hSw); go_simp; try with_reducible rfl)
        try simp only [List.getElem_toArray, List.getElem_cons_succ, List.getElem_cons_zero, Act.put, List.setIfInBounds_toArray, List.set_cons_zero, List.set_cons_succ]
        refine wpAnyH_take (i := 11) (v := ?_) rfl (by kernel_rfl) (by kernel_rfl) (by kernel_rfl) (fun _ _ _ h => h) (Or.inl ⟨by rfl, ?_⟩) hHeld ?_
        rotate_left
        · (intro wS hSw; (obtain ⟨⟨s0, s1, s2, s3⟩, ⟨s4, s5, s6, s7⟩⟩ := hSw); go_simp; try with_reducible rfl)
        try simp only [List.getElem_toArray, List.getElem_cons_succ, List.getElem_cons_zero, Act.put, List.setIfInBounds_toArray, List.set_cons_zero, List.set_cons_succ]
        refine wpAnyH_done (by kernel_rfl) ?_ _
        clear hHeld
        go_wp2_with (fail)
        go_meet
        case rel => exact ⟨_, _, rfl, rfl, (by have h := (((HT6.out.below (al1 _)).only HO8.out (fun e => by have := HK6.out.l2; have := HT6.out.lt; have := HK5.out.m2.lt; omega) (fun k hk => .inl (by have := HK5.out.m2.lt; omega))).sub (S' := fun _ => False) (fun k _ hk => False.elim hk)); (try simp only [World.size_alloc] at h); exact h), (by have h := (HT8.out.sub (S' := fun _ => False) (fun k _ hk => False.elim hk)); (try simp only [World.size_alloc] at h); exact h), HK8.out⟩
      · skip
        have HZ5b := Lib.hid (HZ5.out.below (al1 (.cells #[.int .i64 o2.c, .int .i64 o2.k, .int .i64 o2.h, .int .i64 o2.v, .int .i64 o1.c, .int .i64 o1.k, .int .i64 o1.h, .int .i64 o1.v] 33)))
        go_simp
        have HK6 := Lib.hid (HK5.out.below (al1 (w := (World.alloc w4 (.cells #[.int .i64 o1.c, .int .i64 o1.k, .int .i64 o1.h, .int .i64 o1.v, .int .i64 o2.c, .int .i64 o2.k, .int .i64 o2.h, .int .i64 o2.v] 33))) (.cells #[.int .i64 o2.c, .int .i64 o2.k, .int .i64 o2.h, .int .i64 o2.v, .int .i64 o1.c, .int .i64 o1.k, .int .i64 o1.h, .int .i64 o1.v] 33)))
        have HZ6 : Hid (Ops (World.alloc (World.alloc w4 (.cells #[.int .i64 o1.c, .int .i64 o1.k, .int .i64 o1.h, .int .i64 o1.v, .int .i64 o2.c, .int .i64 o2.k, .int .i64 o2.h, .int .i64 o2.v] 33)) (.cells #[.int .i64 o2.c, .int .i64 o2.k, .int .i64 o2.h, .int .i64 o2.v, .int .i64 o1.c, .int .i64 o1.k, .int .i64 o1.h, .int .i64 o1.v] 33)) (some ⟨w4.heap.size + 1, 0, none⟩) 2 [o2, o1]) := Lib.hid (by have h := ops2 (World.alloc w4 (.cells #[.int .i64 o1.c, .int .i64 o1.k, .int .i64 o1.h, .int .i64 o1.v, .int .i64 o2.c, .int .i64 o2.k, .int .i64 o2.h, .int .i64 o2.v] 33)) o2 o1 HWF.out.2 HWF.out.1; (try simp only [World.size_alloc] at h); exact h)
        refine hK.out _ _ ?_ (fun hNext => ?_)
        · exact ⟨HK6.out.oa, HK6.out.ob⟩
        clear hK K hHeld
        have hHeld := hNext
        clear hNext
        try simp only [List.getElem_toArray, List.getElem_cons_succ, List.getElem_cons_zero, Act.put, List.setIfInBounds_toArray, List.set_cons_zero, List.set_cons_succ]
        refine wpAnyH_ready (rs := [4]) (by kernel_rfl) (by simp) ?_
        refine AllReadyH.cons rfl (fun K hK => ?_) AllReadyH.nil
        go_simp
        (go_at_call 15; ((with_reducible refine (KW.r1 HK6.out (w4.heap.size) 2 o1 o2 HZ5b.out (show ¬ w4.heap.size = b1 from by (have h1 := HKd.out.m1.lt); (have h2 := HKd.out.m2.lt); (try simp only [World.size_alloc]); omega) HL.out).mono ?_); rintro e w7 ⟨rfl, hTT, hKW, hO⟩; have HT7 := Lib.hid hTT; have HK7 := Lib.hid hKW; have HZ6b := Lib.hid (HZ6.out.only hO (fun ad e => by cases e; show ¬ w4.heap.size + 1 = b1; (have h1 := HKd.out.m1.lt); omega)); have HO7 := Lib.hid hO; clear hO; clear hTT hKW))
        refine hK.out _ _ ?_ (fun hNext => ?_)
        · exact ⟨HK7.out.oa, HK7.out.ob⟩
        clear hK K hHeld
        have hHeld := hNext
        clear hNext
        try simp only [List.getElem_toArray, List.getElem_cons_succ, List.getElem_cons_zero, Act.put, List.setIfInBounds_toArray, List.set_cons_zero, List.set_cons_succ]
        refine wpAnyH_ready (rs := [9]) (by kernel_rfl) (by simp) ?_
        refine AllReadyH.cons rfl (fun K hK => ?_) AllReadyH.nil
        go_simp
        (go_at_call 15; ((with_reducible refine (KW.r2 HK7.out (w4.heap.size + 1) 2 o2 o1 HZ6b.out (show ¬ w4.heap.size + 1 = b2 from by (have h1 := HKd.out.m1.lt); (have h2 := HKd.out.m2.lt); (try simp only [World.size_alloc]); omega) HL.out).mono ?_); rintro e w8 ⟨rfl, hTT, hKW, hO⟩; have HT8 := Lib.hid hTT; have HK8 := Lib.hid hKW; have HO8 := Lib.hid hO; clear hO; clear hTT hKW))
        refine hK.out _ _ ?_ (fun hNext => ?_)
        · exact ⟨HK8.out.oa, HK8.out.ob⟩
        clear hK K hHeld
        have hHeld := hNext
        clear hNext
        try simp only [List.getElem_toArray, List.getElem_cons_succ, List.getElem_cons_zero, Act.put, List.setIfInBounds_toArray, List.set_cons_zero, List.set_cons_succ]
        refine wpAnyH_take (i := 10) (v := ?_) rfl (by kernel_rfl) (by kernel_rfl) (by kernel_rfl) (fun _ _ _ h => h) (Or.inl ⟨by rfl, ?_⟩) hHeld ?_
        rotate_left
        · (intro wS hSw; (obtain ⟨⟨s0, s1, s2, s3⟩, ⟨s4, s5, s6, s7⟩⟩ := hSw); go_simp; try with_reducible rfl)
        try simp only [List.getElem_toArray, List.getElem_cons_succ, List.getElem_cons_zero, Act.put, List.setIfInBounds_toArray, List.set_cons_zero, List.set_cons_succ]
        refine wpAnyH_take (i := 11) (v := ?_) rfl (by kernel_rfl) (by kernel_rfl) (by kernel_rfl) (fun _ _ _ h => h) (Or.inl ⟨by rfl, ?_⟩) hHeld ?_
        rotate_left
        · (intro wS hSw; (obtain ⟨⟨s0, s1, s2, s3⟩, ⟨s4, s5, s6, s7⟩⟩ := hSw); go_simp; try with_reducible rfl)
        try simp only [List.getElem_toArray, List.getElem_cons_succ, List.getElem_cons_zero, Act.put, List.setIfInBounds_toArray, List.set_cons_zero, List.set_cons_succ]
        refine wpAnyH_done (by kernel_rfl) ?_ _
        clear hHeld
        go_wp2_with (fail)
        go_meet
        case rel => exact ⟨_, _, rfl, rfl, (by have h := ((HT7.out.only HO8.out (fun e => by have := HK6.out.m2.lt; omega) (fun k hk => .inl (by have := HK6.out.m2.lt; omega))).sub (S' := fun _ => False) (fun k _ hk => False.elim hk)); (try simp only [World.size_alloc] at h); exact h), (by have h := (HT8.out.sub (S' := fun _ => False) (fun k _ hk => False.elim hk)); (try simp only [World.size_alloc] at h); exact h), HK8.out⟩
    · skip
      have HZ0 := True.intro
      go_simp
      have HK5 := Lib.hid (HKd.out.below (al1 (w := w4) (.cells #[.int .i64 o2.c, .int .i64 o2.k, .int .i64 o2.h, .int .i64 o2.v, .int .i64 o1.c, .int .i64 o1.k, .int .i64 o1.h, .int .i64 o1.v] 33)))
      have HZ5 : Hid (Ops (World.alloc w4 (.cells #[.int .i64 o2.c, .int .i64 o2.k, .int .i64 o2.h, .int .i64 o2.v, .int .i64 o1.c, .int .i64 o1.k, .int .i64 o1.h, .int .i64 o1.v] 33)) (some ⟨w4.heap.size, 0, none⟩) 2 [o2, o1]) := Lib.hid (by have h := ops2 w4 o2 o1 HWF.out.2 HWF.out.1; (try simp only [World.size_alloc] at h); exact h)
      refine hK.out _ _ ?_ (fun hNext => ?_)
      · exact ⟨HK5.out.oa, HK5.out.ob⟩
      clear hK K hHeld
      have hHeld := hNext
      clear hNext
      try simp only [List.getElem_toArray, List.getElem_cons_succ, List.getElem_cons_zero, Act.put, List.setIfInBounds_toArray, List.set_cons_zero, List.set_cons_succ]
      refine wpAnyH_ready (rs := [3]) (by kernel_rfl) (by simp) ?_
      refine AllReadyH.cons rfl (fun K hK => ?_) AllReadyH.nil
      go_simp
      have HK6 := Lib.hid (HK5.out.below (al1 (w := (World.alloc w4 (.cells #[.int .i64 o2.c, .int .i64 o2.k, .int .i64 o2.h, .int .i64 o2.v, .int .i64 o1.c, .int .i64 o1.k, .int .i64 o1.h, .int .i64 o1.v] 33))) (.cells #[.int .i64 o1.c, .int .i64 o1.k, .int .i64 o1.h, .int .i64 o1.v, .int .i64 o2.c, .int .i64 o2.k, .int .i64 o2.h, .int .i64 o2.v] 33)))
      have HZ6 : Hid (Ops (World.alloc (World.alloc w4 (.cells #[.int .i64 o2.c, .int .i64 o2.k, .int .i64 o2.h, .int .i64 o2.v, .int .i64 o1.c, .int .i64 o1.k, .int .i64 o1.h, .int .i64 o1.v] 33)) (.cells #[.int .i64 o1.c, .int .i64 o1.k, .int .i64 o1.h, .int .i64 o1.v, .int .i64 o2.c, .int .i64 o2.k, .int .i64 o2.h, .int .i64 o2.v] 33)) (some ⟨w4.heap.size + 1, 0, none⟩) 2 [o1, o2]) := Lib.hid (by have h := ops2 (World.alloc w4 (.cells #[.int .i64 o2.c, .int .i64 o2.k, .int .i64 o2.h, .int .i64 o2.v, .int .i64 o1.c, .int .i64 o1.k, .int .i64 o1.h, .int .i64 o1.v] 33)) o1 o2 HWF.out.1 HWF.out.2; (try simp only [World.size_alloc] at h); exact h)
      refine hK.out _ _ ?_ (fun hNext => ?_)
      · exact ⟨HK6.out.oa, HK6.out.ob⟩
      clear hK K hHeld
      have hHeld := hNext
      clear hNext
      try simp only [List.getElem_toArray, List.getElem_cons_succ, List.getElem_cons_zero, Act.put, List.setIfInBounds_toArray, List.set_cons_zero, List.set_cons_succ]
      refine wpAnyH_ready (rs := [4]) (by kernel_rfl) (by simp) ?_
      refine AllReadyH.cons rfl (fun K hK => ?_) AllReadyH.nil
      go_simp
      (go_at_call 15; ((with_reducible refine (KW.r1 HK6.out (w4.heap.size + 1) 2 o1 o2 HZ6.out (show ¬ w4.heap.size + 1 = b1 from by (have h1 := HKd.out.m1.lt); (have h2 := HKd.out.m2.lt); (try simp only [World.size_alloc]); omega) HL.out).mono ?_); rintro e w7 ⟨rfl, hTT, hKW, hO⟩; have HT7 := Lib.hid hTT; have HK7 := Lib.hid hKW; have HZ5b := Lib.hid ((HZ5.out.below (al1 (.cells #[.int .i64 o1.c, .int .i64 o1.k, .int .i64 o1.h, .int .i64 o1.v, .int .i64 o2.c, .int .i64 o2.k, .int .i64 o2.h, .int .i64 o2.v] 33))).only hO (fun ad e => by cases e; show ¬ w4.heap.size = b1; (have h1 := HKd.out.m1.lt); omega)); have HO7 := Lib.hid hO; clear hO; clear hTT hKW))
      refine hK.out _ _ ?_ (fun hNext => ?_)
      · exact ⟨HK7.out.oa, HK7.out.ob⟩
      clear hK K hHeld
      have hHeld := hNext
      clear hNext
      try simp only [List.getElem_toArray, List.getElem_cons_succ, List.getElem_cons_zero, Act.put, List.setIfInBounds_toArray, List.set_cons_zero, List.set_cons_succ]
      refine wpAnyH_ready (rs := [9]) (by kernel_rfl) (by simp) ?_
      refine AllReadyH.cons rfl (fun K hK => ?_) AllReadyH.nil
      go_simp
      (go_at_call 15; ((with_reducible refine (KW.r2 HK7.out (w4.heap.size) 2 o2 o1 HZ5b.out (show ¬ w4.heap.size = b2 from by (have h1 := HKd.out.m1.lt); (have h2 := HKd.out.m2.lt); (try simp only [World.size_alloc]); omega) HL.out).mono ?_); rintro e w8 ⟨rfl, hTT, hKW, hO⟩; have HT8 := Lib.hid hTT; have HK8 := Lib.hid hKW; have HO8 := Lib.hid hO; clear hO; clear hTT hKW))
      refine hK.out _ _ ?_ (fun hNext => ?_)
      · exact ⟨HK8.out.oa, HK8.out.ob⟩
      clear hK K hHeld
      have hHeld := hNext
      clear hNext
      try simp only [List.getElem_toArray, List.getElem_cons_succ, List.getElem_cons_zero, Act.put, List.setIfInBounds_toArray, List.set_cons_zero, List.set_cons_succ]
      refine wpAnyH_take (i := 10) (v := ?_) rfl (by kernel_rfl) (by kernel_rfl) (by kernel_rfl) (fun _ _ _ h => h) (Or.inl ⟨by rfl, ?_⟩) hHeld ?_
      rotate_left
      · (intro wS hSw; (obtain ⟨⟨s0, s1, s2, s3⟩, ⟨s4, s5, s6, s7⟩⟩ := hSw); go_simp; try with_reducible rfl)
      try simp only [List.getElem_toArray, List.getElem_cons_succ, List.getElem_cons_zero, Act.put, List.setIfInBounds_toArray, List.set_cons_zero, List.set_cons_succ]
      refine wpAnyH_take (i := 11) (v := ?_) rfl (by kernel_rfl) (by kernel_rfl) (by kernel_rfl) (fun _ _ _ h => h) (Or.inl ⟨by rfl, ?_⟩) hHeld ?_
      rotate_left
      · (intro wS hSw; (obtain ⟨⟨s0, s1, s2, s3⟩, ⟨s4, s5, s6, s7⟩⟩ := hSw); go_simp; try with_reducible rfl)
      try simp only [List.getElem_toArray, List.getElem_cons_succ, List.getElem_cons_zero, Act.put, List.setIfInBounds_toArray, List.set_cons_zero, List.set_cons_succ]
      refine wpAnyH_done (by kernel_rfl) ?_ _
      clear hHeld
      go_wp2_with (fail)
      go_meet
      case rel => exact ⟨_, _, rfl, rfl, (by have h := ((HT7.out.only HO8.out (fun e => by have := HK6.out.m2.lt; omega) (fun k hk => .inl (by have := HK6.out.m2.lt; omega))).sub (S' := fun _ => False) (fun k _ hk => False.elim hk)); (try simp only [World.size_alloc] at h); exact h), (by have h := (HT8.out.sub (S' := fun _ => False) (fun k _ hk => False.elim hk)); (try simp only [World.size_alloc] at h); exact h), HK8.out⟩
  case rest =>
    obtain ⟨gx, gy, rfl, rfl, hTx, hTy, hK⟩ := hcut
    rw [HA.out.1] at hTx
    rw [HA.out.2.1] at hTy
    rw [HA.out.2.2] at hK
    have HK9 := Lib.hid hK
    obtain ⟨ax0, cx0, X0⟩ := hTx.at_ 0 _ rfl (by decide)
    obtain ⟨ax1, cx1, X1⟩ := hTx.at_ 1 _ rfl (by decide)
    obtain ⟨ay0, cy0, Y0⟩ := hTy.at_ 0 _ rfl (by decide)
    obtain ⟨ay1, cy1, Y1⟩ := hTy.at_ 1 _ rfl (by decide)
    clear hTx hTy hK HA HK
    generalize hadD L o1.k = Da at *
    generalize hadD L o2.k = Db at *
    generalize runP L [o1, o2] = R at *
    have HS9 : Hid (wc.cell? ⟨gx, 0, none⟩ = some (.int .i64 Da.err) ∧ wc.cell? ⟨gx, 1, none⟩ = some (.bool Da.ok) ∧ wc.cell? ⟨gx, 2, none⟩ = some (.int .i64 Da.k) ∧ wc.cell? ⟨gx, 3, none⟩ = some (.int .i64 Da.v) ∧ wc.cell? ⟨gx, 4, none⟩ = some (.int .i64 Da.n) ∧ wc.cell? ⟨gx, 5, none⟩ = some (.slice ax0 Da.ps.length cx0) ∧ wc.cell? ⟨gx, 6, none⟩ = some (.int .i64 Db.err) ∧ wc.cell? ⟨gx, 7, none⟩ = some (.bool Db.ok) ∧ wc.cell? ⟨gx, 8, none⟩ = some (.int .i64 Db.k) ∧ wc.cell? ⟨gx, 9, none⟩ = some (.int .i64 Db.v) ∧ wc.cell? ⟨gx, 10, none⟩ = some (.int .i64 Db.n) ∧ wc.cell? ⟨gx, 11, none⟩ = some (.slice ax1 Db.ps.length cx1) ∧ wc.cell? ⟨gy, 0, none⟩ = some (.int .i64 Db.err) ∧ wc.cell? ⟨gy, 1, none⟩ = some (.bool Db.ok) ∧ wc.cell? ⟨gy, 2, none⟩ = some (.int .i64 Db.k) ∧ wc.cell? ⟨gy, 3, none⟩ = some (.int .i64 Db.v) ∧ wc.cell? ⟨gy, 4, none⟩ = some (.int .i64 Db.n) ∧ wc.cell? ⟨gy, 5, none⟩ = some (.slice ay0 Db.ps.length cy0) ∧ wc.cell? ⟨gy, 6, none⟩ = some (.int .i64 Da.err) ∧ wc.cell? ⟨gy, 7, none⟩ = some (.bool Da.ok) ∧ wc.cell? ⟨gy, 8, none⟩ = some (.int .i64 Da.k) ∧ wc.cell? ⟨gy, 9, none⟩ = some (.int .i64 Da.v) ∧ wc.cell? ⟨gy, 10, none⟩ = some (.int .i64 Da.n) ∧ wc.cell? ⟨gy, 11, none⟩ = some (.slice ay1 Da.ps.length cy1)) := Lib.hid ⟨X0.c0, X0.c1, X0.c2, X0.c3, X0.c4, X0.c5, X1.c0, X1.c1, X1.c2, X1.c3, X1.c4, X1.c5, Y0.c0, Y0.c1, Y0.c2, Y0.c3, Y0.c4, Y0.c5, Y1.c0, Y1.c1, Y1.c2, Y1.c3, Y1.c4, Y1.c5⟩
    have PX0 := Lib.hid (X0.row.prs rfl)
    have PX1 := Lib.hid (X1.row.prs rfl)
    have PY0 := Lib.hid (Y0.row.prs rfl)
    have PY1 := Lib.hid (Y1.row.prs rfl)
    have c1 := fun W h1 h2 => rsame_ans Da Da ax0 ay1 cx0 cy1 W h1 h2 true (decide_eq_true (AdEq.refl _))
    have c2 := fun W h1 h2 => rsame_ans Db Db ax1 ay0 cx1 cy0 W h1 h2 true (decide_eq_true (AdEq.refl _))
    unfold Ad.val at c1 c2
    clear X0 X1 Y0 Y1
    go_wp2_with (fail)
    refine wp_region_held_drew (S := (fun W => W.cell? ⟨gx, 0, none⟩ = some (.int .i64 Da.err) ∧ W.cell? ⟨gx, 1, none⟩ = some (.bool Da.ok) ∧ W.cell? ⟨gx, 2, none⟩ = some (.int .i64 Da.k) ∧ W.cell? ⟨gx, 3, none⟩ = some (.int .i64 Da.v) ∧ W.cell? ⟨gx, 4, none⟩ = some (.int .i64 Da.n) ∧ W.cell? ⟨gx, 5, none⟩ = some (.slice ax0 Da.ps.length cx0) ∧ W.cell? ⟨gx, 6, none⟩ = some (.int .i64 Db.err) ∧ W.cell? ⟨gx, 7, none⟩ = some (.bool Db.ok) ∧ W.cell? ⟨gx, 8, none⟩ = some (.int .i64 Db.k) ∧ W.cell? ⟨gx, 9, none⟩ = some (.int .i64 Db.v) ∧ W.cell? ⟨gx, 10, none⟩ = some (.int .i64 Db.n) ∧ W.cell? ⟨gx, 11, none⟩ = some (.slice ax1 Db.ps.length cx1) ∧ W.cell? ⟨gy, 0, none⟩ = some (.int .i64 Db.err) ∧ W.cell? ⟨gy, 1, none⟩ = some (.bool Db.ok) ∧ W.cell? ⟨gy, 2, none⟩ = some (.int .i64 Db.k) ∧ W.cell? ⟨gy, 3, none⟩ = some (.int .i64 Db.v) ∧ W.cell? ⟨gy, 4, none⟩ = some (.int .i64 Db.n) ∧ W.cell? ⟨gy, 5, none⟩ = some (.slice ay0 Db.ps.length cy0) ∧ W.cell? ⟨gy, 6, none⟩ = some (.int .i64 Da.err) ∧ W.cell? ⟨gy, 7, none⟩ = some (.bool Da.ok) ∧ W.cell? ⟨gy, 8, none⟩ = some (.int .i64 Da.k) ∧ W.cell? ⟨gy, 9, none⟩ = some (.int .i64 Da.v) ∧ W.cell? ⟨gy, 10, none⟩ = some (.int .i64 Da.n) ∧ W.cell? ⟨gy, 11, none⟩ = some (.slice ay1 Da.ps.length cy1))) (by kernel_rfl) (by first | exact HS9.out) (fun hHeld => ?_)
    refine wpAnyH_take (i := 0) (v := ?_) rfl (by kernel_rfl) (by kernel_rfl) (by kernel_rfl) (fun _ _ _ h => h) (Or.inl ⟨by rfl, ?_⟩) hHeld ?_
    rotate_left
    · (intro wS hSw; (obtain ⟨s0, s1, s2, s3, s4, s5, s6, s7, s8, s9, s10, s11, s12, s13, s14, s15, s16, s17, s18, s19, s20, s21, s22, s23⟩ := hSw); go_simp; try with_reducible rfl)
    try simp only [List.getElem_toArray, List.getElem_cons_succ, List.getElem_cons_zero, Act.put, List.setIfInBounds_toArray, List.set_cons_zero, List.set_cons_succ]
    refine wpAnyH_take (i := 1) (v := ?_) rfl (by kernel_rfl) (by kernel_rfl) (by kernel_rfl) (fun _ _ _ h => h) (Or.inl ⟨by rfl, ?_⟩) hHeld ?_
    rotate_left
    · (intro wS hSw; (obtain ⟨s0, s1, s2, s3, s4, s5, s6, s7, s8, s9, s10, s11, s12, s13, s14, s15, s16, s17, s18, s19, s20, s21, s22, s23⟩ := hSw); go_simp; try with_reducible rfl)
    try simp only [List.getElem_toArray, List.getElem_cons_succ, List.getElem_cons_zero, Act.put, List.setIfInBounds_toArray, List.set_cons_zero, List.set_cons_succ]
    refine wpAnyH_take (i := 2) (v := ?_) rfl (by kernel_rfl) (by kernel_rfl) (by kernel_rfl) (fun _ _ _ h => h) (Or.inl ⟨by rfl, ?_⟩) hHeld ?_
    rotate_left
    · (intro wS hSw; (obtain ⟨s0, s1, s2, s3, s4, s5, s6, s7, s8, s9, s10, s11, s12, s13, s14, s15, s16, s17, s18, s19, s20, s21, s22, s23⟩ := hSw); go_simp; try with_reducible rfl)
    try simp only [List.getElem_toArray, List.getElem_cons_succ, List.getElem_cons_zero, Act.put, List.setIfInBounds_toArray, List.set_cons_zero, List.set_cons_succ]
    refine wpAnyH_take (i := 3) (v := ?_) rfl (by kernel_rfl) (by kernel_rfl) (by kernel_rfl) (fun _ _ _ h => h) (Or.inl ⟨by rfl, ?_⟩) hHeld ?_
    rotate_left
    · (intro wS hSw; (obtain ⟨s0, s1, s2, s3, s4, s5, s6, s7, s8, s9, s10, s11, s12, s13, s14, s15, s16, s17, s18, s19, s20, s21, s22, s23⟩ := hSw); go_simp; try with_reducible rfl)
    try simp only [List.getElem_toArray, List.getElem_cons_succ, List.getElem_cons_zero, Act.put, List.setIfInBounds_toArray, List.set_cons_zero, List.set_cons_succ]
    refine wpAnyH_take (i := 4) (v := ?_) rfl (by kernel_rfl) (by kernel_rfl) (by kernel_rfl) (fun _ _ _ h => h) (Or.inl ⟨by rfl, ?_⟩) hHeld ?_
    rotate_left
    · (intro wS hSw; (obtain ⟨s0, s1, s2, s3, s4, s5, s6, s7, s8, s9, s10, s11, s12, s13, s14, s15, s16, s17, s18, s19, s20, s21, s22, s23⟩ := hSw); go_simp; try with_reducible rfl)
    try simp only [List.getElem_toArray, List.getElem_cons_succ, List.getElem_cons_zero, Act.put, List.setIfInBounds_toArray, List.set_cons_zero, List.set_cons_succ]
    refine wpAnyH_take (i := 5) (v := ?_) rfl (by kernel_rfl) (by kernel_rfl) (by kernel_rfl) (fun _ _ _ h => h) (Or.inl ⟨by rfl, ?_⟩) hHeld ?_
    rotate_left
    · (intro wS hSw; (obtain ⟨s0, s1, s2, s3, s4, s5, s6, s7, s8, s9, s10, s11, s12, s13, s14, s15, s16, s17, s18, s19, s20, s21, s22, s23⟩ := hSw); go_simp; try with_reducible rfl)
    try simp only [List.getElem_toArray, List.getElem_cons_succ, List.getElem_cons_zero, Act.put, List.setIfInBounds_toArray, List.set_cons_zero, List.set_cons_succ]
    refine wpAnyH_take (i := 6) (v := ?_) rfl (by kernel_rfl) (by kernel_rfl) (by kernel_rfl) (fun _ _ _ h => h) (Or.inl ⟨by rfl, ?_⟩) hHeld ?_
    rotate_left
    · (intro wS hSw; (obtain ⟨s0, s1, s2, s3, s4, s5, s6, s7, s8, s9, s10, s11, s12, s13, s14, s15, s16, s17, s18, s19, s20, s21, s22, s23⟩ := hSw); go_simp; try with_reducible rfl)
    try simp only [List.getElem_toArray, List.getElem_cons_succ, List.getElem_cons_zero, Act.put, List.setIfInBounds_toArray, List.set_cons_zero, List.set_cons_succ]
    refine wpAnyH_take (i := 7) (v := ?_) rfl (by kernel_rfl) (by kernel_rfl) (by kernel_rfl) (fun _ _ _ h => h) (Or.inl ⟨by rfl, ?_⟩) hHeld ?_
    rotate_left
    · (intro wS hSw; (obtain ⟨s0, s1, s2, s3, s4, s5, s6, s7, s8, s9, s10, s11, s12, s13, s14, s15, s16, s17, s18, s19, s20, s21, s22, s23⟩ := hSw); go_simp; try with_reducible rfl)
    try simp only [List.getElem_toArray, List.getElem_cons_succ, List.getElem_cons_zero, Act.put, List.setIfInBounds_toArray, List.set_cons_zero, List.set_cons_succ]
    refine wpAnyH_take (i := 8) (v := ?_) rfl (by kernel_rfl) (by kernel_rfl) (by kernel_rfl) (fun _ _ _ h => h) (Or.inl ⟨by rfl, ?_⟩) hHeld ?_
    rotate_left
    · (intro wS hSw; (obtain ⟨s0, s1, s2, s3, s4, s5, s6, s7, s8, s9, s10, s11, s12, s13, s14, s15, s16, s17, s18, s19, s20, s21, s22, s23⟩ := hSw); go_simp; try with_reducible rfl)
    try simp only [List.getElem_toArray, List.getElem_cons_succ, List.getElem_cons_zero, Act.put, List.setIfInBounds_toArray, List.set_cons_zero, List.set_cons_succ]
    refine wpAnyH_take (i := 9) (v := ?_) rfl (by kernel_rfl) (by kernel_rfl) (by kernel_rfl) (fun _ _ _ h => h) (Or.inl ⟨by rfl, ?_⟩) hHeld ?_
    rotate_left
    · (intro wS hSw; (obtain ⟨s0, s1, s2, s3, s4, s5, s6, s7, s8, s9, s10, s11, s12, s13, s14, s15, s16, s17, s18, s19, s20, s21, s22, s23⟩ := hSw); go_simp; try with_reducible rfl)
    try simp only [List.getElem_toArray, List.getElem_cons_succ, List.getElem_cons_zero, Act.put, List.setIfInBounds_toArray, List.set_cons_zero, List.set_cons_succ]
    refine wpAnyH_take (i := 10) (v := ?_) rfl (by kernel_rfl) (by kernel_rfl) (by kernel_rfl) (fun _ _ _ h => h) (Or.inl ⟨by rfl, ?_⟩) hHeld ?_
    rotate_left
    · (intro wS hSw; (obtain ⟨s0, s1, s2, s3, s4, s5, s6, s7, s8, s9, s10, s11, s12, s13, s14, s15, s16, s17, s18, s19, s20, s21, s22, s23⟩ := hSw); go_simp; try with_reducible rfl)
    try simp only [List.getElem_toArray, List.getElem_cons_succ, List.getElem_cons_zero, Act.put, List.setIfInBounds_toArray, List.set_cons_zero, List.set_cons_succ]
    refine wpAnyH_take (i := 11) (v := ?_) rfl (by kernel_rfl) (by kernel_rfl) (by kernel_rfl) (fun _ _ _ h => h) (Or.inl ⟨by rfl, ?_⟩) hHeld ?_
    rotate_left
    · (intro wS hSw; (obtain ⟨s0, s1, s2, s3, s4, s5, s6, s7, s8, s9, s10, s11, s12, s13, s14, s15, s16, s17, s18, s19, s20, s21, s22, s23⟩ := hSw); go_simp; try with_reducible rfl)
    try simp only [List.getElem_toArray, List.getElem_cons_succ, List.getElem_cons_zero, Act.put, List.setIfInBounds_toArray, List.set_cons_zero, List.set_cons_succ]
    refine wpAnyH_take (i := 12) (v := ?_) rfl (by kernel_rfl) (by kernel_rfl) (by kernel_rfl) (fun _ _ _ h => h) (Or.inl ⟨by rfl, ?_⟩) hHeld ?_
    rotate_left
    · (intro wS hSw; (obtain ⟨s0, s1, s2, s3, s4, s5, s6, s7, s8, s9, s10, s11, s12, s13, s14, s15, s16, s17, s18, s19, s20, s21, s22, s23⟩ := hSw); go_simp; try with_reducible rfl)
    try simp only [List.getElem_toArray, List.getElem_cons_succ, List.getElem_cons_zero, Act.put, List.setIfInBounds_toArray, List.set_cons_zero, List.set_cons_succ]
    refine wpAnyH_take (i := 13) (v := ?_) rfl (by kernel_rfl) (by kernel_rfl) (by kernel_rfl) (fun _ _ _ h => h) (Or.inl ⟨by rfl, ?_⟩) hHeld ?_
    rotate_left
    · (intro wS hSw; (obtain ⟨s0, s1, s2, s3, s4, s5, s6, s7, s8, s9, s10, s11, s12, s13, s14, s15, s16, s17, s18, s19, s20, s21, s22, s23⟩ := hSw); go_simp; try with_reducible rfl)
    try simp only [List.getElem_toArray, List.getElem_cons_succ, List.getElem_cons_zero, Act.put, List.setIfInBounds_toArray, List.set_cons_zero, List.set_cons_succ]
    refine wpAnyH_take (i := 14) (v := ?_) rfl (by kernel_rfl) (by kernel_rfl) (by kernel_rfl) (fun _ _ _ h => h) (Or.inl ⟨by rfl, ?_⟩) hHeld ?_
    rotate_left
    · (intro wS hSw; (obtain ⟨s0, s1, s2, s3, s4, s5, s6, s7, s8, s9, s10, s11, s12, s13, s14, s15, s16, s17, s18, s19, s20, s21, s22, s23⟩ := hSw); go_simp; try with_reducible rfl)
    try simp only [List.getElem_toArray, List.getElem_cons_succ, List.getElem_cons_zero, Act.put, List.setIfInBounds_toArray, List.set_cons_zero, List.set_cons_succ]
    refine wpAnyH_ready (rs := [15]) (by kernel_rfl) (by simp) ?_
    refine AllReadyH.cons rfl (fun K hK => ?_) AllReadyH.nil
    go_simp
    go_at_call 17; ((with_reducible refine (c1 _ (PX0.out.below ((Below.refl _ _).drew)) (PY1.out.below ((Below.refl _ _).drew))).mono ?_); rintro e v1 ⟨rfl, hb1⟩; have HV1 : Hid (Below wc.heap.size wc v1) := Lib.hid (((Below.refl _ _).drew).trans hb1); clear hb1)
    refine hK.out _ _ ?_ (fun hNext => ?_)
    · exact mk_keep24 HS9.out HV1.out
    clear hK K hHeld
    have hHeld := hNext
    clear hNext
    try simp only [List.getElem_toArray, List.getElem_cons_succ, List.getElem_cons_zero, Act.put, List.setIfInBounds_toArray, List.set_cons_zero, List.set_cons_succ]
    refine wpAnyH_take (i := 16) (v := ?_) rfl (by kernel_rfl) (by kernel_rfl) (by kernel_rfl) (fun _ _ _ h => h) (Or.inl ⟨by rfl, ?_⟩) hHeld ?_
    rotate_left
    · (intro wS hSw; (obtain ⟨s0, s1, s2, s3, s4, s5, s6, s7, s8, s9, s10, s11, s12, s13, s14, s15, s16, s17, s18, s19, s20, s21, s22, s23⟩ := hSw); go_simp; try with_reducible rfl)
    try simp only [List.getElem_toArray, List.getElem_cons_succ, List.getElem_cons_zero, Act.put, List.setIfInBounds_toArray, List.set_cons_zero, List.set_cons_succ]
    refine wpAnyH_take (i := 17) (v := ?_) rfl (by kernel_rfl) (by kernel_rfl) (by kernel_rfl) (fun _ _ _ h => h) (Or.inl ⟨by rfl, ?_⟩) hHeld ?_
    rotate_left
    · (intro wS hSw; (obtain ⟨s0, s1, s2, s3, s4, s5, s6, s7, s8, s9, s10, s11, s12, s13, s14, s15, s16, s17, s18, s19, s20, s21, s22, s23⟩ := hSw); go_simp; try with_reducible rfl)
    try simp only [List.getElem_toArray, List.getElem_cons_succ, List.getElem_cons_zero, Act.put, List.setIfInBounds_toArray, List.set_cons_zero, List.set_cons_succ]
    refine wpAnyH_take (i := 18) (v := ?_) rfl (by kernel_rfl) (by kernel_rfl) (by kernel_rfl) (fun _ _ _ h => h) (Or.inl ⟨by rfl, ?_⟩) hHeld ?_
    rotate_left
    · (intro wS hSw; (obtain ⟨s0, s1, s2, s3, s4, s5, s6, s7, s8, s9, s10, s11, s12, s13, s14, s15, s16, s17, s18, s19, s20, s21, s22, s23⟩ := hSw); go_simp; try with_reducible rfl)
    try simp only [List.getElem_toArray, List.getElem_cons_succ, List.getElem_cons_zero, Act.put, List.setIfInBounds_toArray, List.set_cons_zero, List.set_cons_succ]
    refine wpAnyH_take (i := 19) (v := ?_) rfl (by kernel_rfl) (by kernel_rfl) (by kernel_rfl) (fun _ _ _ h => h) (Or.inl ⟨by rfl, ?_⟩) hHeld ?_
    rotate_left
    · (intro wS hSw; (obtain ⟨s0, s1, s2, s3, s4, s5, s6, s7, s8, s9, s10, s11, s12, s13, s14, s15, s16, s17, s18, s19, s20, s21, s22, s23⟩ := hSw); go_simp; try with_reducible rfl)
    try simp only [List.getElem_toArray, List.getElem_cons_succ, List.getElem_cons_zero, Act.put, List.setIfInBounds_toArray, List.set_cons_zero, List.set_cons_succ]
    refine wpAnyH_take (i := 20) (v := ?_) rfl (by kernel_rfl) (by kernel_rfl) (by kernel_rfl) (fun _ _ _ h => h) (Or.inl ⟨by rfl, ?_⟩) hHeld ?_
    rotate_left
    · (intro wS hSw; (obtain ⟨s0, s1, s2, s3, s4, s5, s6, s7, s8, s9, s10, s11, s12, s13, s14, s15, s16, s17, s18, s19, s20, s21, s22, s23⟩ := hSw); go_simp; try with_reducible rfl)
    try simp only [List.getElem_toArray, List.getElem_cons_succ, List.getElem_cons_zero, Act.put, List.setIfInBounds_toArray, List.set_cons_zero, List.set_cons_succ]
    refine wpAnyH_take (i := 21) (v := ?_) rfl (by kernel_rfl) (by kernel_rfl) (by kernel_rfl) (fun _ _ _ h => h) (Or.inl ⟨by rfl, ?_⟩) hHeld ?_
    rotate_left
    · (intro wS hSw; (obtain ⟨s0, s1, s2, s3, s4, s5, s6, s7, s8, s9, s10, s11, s12, s13, s14, s15, s16, s17, s18, s19, s20, s21, s22, s23⟩ := hSw); go_simp; try with_reducible rfl)
    try simp only [List.getElem_toArray, List.getElem_cons_succ, List.getElem_cons_zero, Act.put, List.setIfInBounds_toArray, List.set_cons_zero, List.set_cons_succ]
    refine wpAnyH_take (i := 22) (v := ?_) rfl (by kernel_rfl) (by kernel_rfl) (by kernel_rfl) (fun _ _ _ h => h) (Or.inl ⟨by rfl, ?_⟩) hHeld ?_
    rotate_left
    · (intro wS hSw; (obtain ⟨s0, s1, s2, s3, s4, s5, s6, s7, s8, s9, s10, s11, s12, s13, s14, s15, s16, s17, s18, s19, s20, s21, s22, s23⟩ := hSw); go_simp; try with_reducible rfl)
    try simp only [List.getElem_toArray, List.getElem_cons_succ, List.getElem_cons_zero, Act.put, List.setIfInBounds_toArray, List.set_cons_zero, List.set_cons_succ]
    refine wpAnyH_take (i := 23) (v := ?_) rfl (by kernel_rfl) (by kernel_rfl) (by kernel_rfl) (fun _ _ _ h => h) (Or.inl ⟨by rfl, ?_⟩) hHeld ?_
    rotate_left
    · (intro wS hSw; (obtain ⟨s0, s1, s2, s3, s4, s5, s6, s7, s8, s9, s10, s11, s12, s13, s14, s15, s16, s17, s18, s19, s20, s21, s22, s23⟩ := hSw); go_simp; try with_reducible rfl)
    try simp only [List.getElem_toArray, List.getElem_cons_succ, List.getElem_cons_zero, Act.put, List.setIfInBounds_toArray, List.set_cons_zero, List.set_cons_succ]
    refine wpAnyH_ready (rs := [24]) (by kernel_rfl) (by simp) ?_
    refine AllReadyH.cons rfl (fun K hK => ?_) AllReadyH.nil
    go_simp
    go_at_call 17; ((with_reducible refine (c2 _ (PX1.out.below HV1.out) (PY0.out.below HV1.out)).mono ?_); rintro e v2 ⟨rfl, hb2⟩; have HV2 := Lib.hid hb2; have HV12 := Lib.hid (bel2 HV1.out hb2); clear hb2)
    refine hK.out _ _ ?_ (fun hNext => ?_)
    · exact mk_keep24 (mk_keep24 HS9.out HV1.out) HV2.out
    clear hK K hHeld
    have hHeld := hNext
    clear hNext
    try simp only [List.getElem_toArray, List.getElem_cons_succ, List.getElem_cons_zero, Act.put, List.setIfInBounds_toArray, List.set_cons_zero, List.set_cons_succ]
    refine wpAnyH_take (i := 25) (v := ?_) rfl (by kernel_rfl) (by kernel_rfl) (by kernel_rfl) (fun _ _ _ h => h) (Or.inl ⟨by rfl, ?_⟩) hHeld ?_
    rotate_left
    · (intro wS hSw; (obtain ⟨s0, s1, s2, s3, s4, s5, s6, s7, s8, s9, s10, s11, s12, s13, s14, s15, s16, s17, s18, s19, s20, s21, s22, s23⟩ := hSw); go_simp; try with_reducible rfl)
    try simp only [List.getElem_toArray, List.getElem_cons_succ, List.getElem_cons_zero, Act.put, List.setIfInBounds_toArray, List.set_cons_zero, List.set_cons_succ]
    refine wpAnyH_take (i := 26) (v := ?_) rfl (by kernel_rfl) (by kernel_rfl) (by kernel_rfl) (fun _ _ _ h => h) (Or.inl ⟨by rfl, ?_⟩) hHeld ?_
    rotate_left
    · (intro wS hSw; (obtain ⟨s0, s1, s2, s3, s4, s5, s6, s7, s8, s9, s10, s11, s12, s13, s14, s15, s16, s17, s18, s19, s20, s21, s22, s23⟩ := hSw); go_simp; try with_reducible rfl)
    try simp only [List.getElem_toArray, List.getElem_cons_succ, List.getElem_cons_zero, Act.put, List.setIfInBounds_toArray, List.set_cons_zero, List.set_cons_succ]
    refine wpAnyH_take (i := 27) (v := ?_) rfl (by kernel_rfl) (by kernel_rfl) (by kernel_rfl) (fun _ _ _ h => h) (Or.inl ⟨by rfl, ?_⟩) hHeld ?_
    rotate_left
    · (intro wS hSw; (obtain ⟨s0, s1, s2, s3, s4, s5, s6, s7, s8, s9, s10, s11, s12, s13, s14, s15, s16, s17, s18, s19, s20, s21, s22, s23⟩ := hSw); go_simp; try with_reducible rfl)
    try simp only [List.getElem_toArray, List.getElem_cons_succ, List.getElem_cons_zero, Act.put, List.setIfInBounds_toArray, List.set_cons_zero, List.set_cons_succ]
    refine wpAnyH_take (i := 29) (v := ?_) rfl (by kernel_rfl) (by kernel_rfl) (by kernel_rfl) (fun _ _ _ h => h) (Or.inl ⟨by rfl, ?_⟩) hHeld ?_
    rotate_left
    · (intro wS hSw; (obtain ⟨s0, s1, s2, s3, s4, s5, s6, s7, s8, s9, s10, s11, s12, s13, s14, s15, s16, s17, s18, s19, s20, s21, s22, s23⟩ := hSw); go_simp; try with_reducible rfl)
    try simp only [List.getElem_toArray, List.getElem_cons_succ, List.getElem_cons_zero, Act.put, List.setIfInBounds_toArray, List.set_cons_zero, List.set_cons_succ]
    refine wpAnyH_ready (rs := [28]) (by kernel_rfl) (by simp) ?_
    refine AllReadyH.cons rfl (fun K hK => ?_) AllReadyH.nil
    go_simp
    go_at_call 13; ((with_reducible refine (mpairs_any b1 _ R _ (HK9.out.m1.below HV12.out) (by have := HR2.out; omega)).mono ?_); rintro e v3 ⟨a3, c3, rfl, hR3, hb3⟩; have HV3 := Lib.hid hb3; have HR3 := Lib.hid hR3; clear hb3 hR3)
    refine hK.out _ _ ?_ (fun hNext => ?_)
    · exact mk_keep24 (mk_keep24 (mk_keep24 HS9.out HV1.out) HV2.out) HV3.out
    clear hK K hHeld
    have hHeld := hNext
    clear hNext
    try simp only [List.getElem_toArray, List.getElem_cons_succ, List.getElem_cons_zero, Act.put, List.setIfInBounds_toArray, List.set_cons_zero, List.set_cons_succ]
    refine wpAnyH_ready (rs := [30]) (by kernel_rfl) (by simp) ?_
    refine AllReadyH.cons rfl (fun K hK => ?_) AllReadyH.nil
    go_simp
    go_at_call 13; ((with_reducible refine (mpairs_any b2 _ R _ ((HK9.out.m2.below HV12.out).below HV3.out) (by have := HR2.out; omega)).mono ?_); rintro e v4 ⟨a4, c4, rfl, hR4, hb4⟩; have HV4 := Lib.hid hb4; have HR4 := Lib.hid hR4; clear hb4 hR4)
    refine hK.out _ _ ?_ (fun hNext => ?_)
    · exact mk_keep24 (mk_keep24 (mk_keep24 (mk_keep24 HS9.out HV1.out) HV2.out) HV3.out) HV4.out
    clear hK K hHeld
    have hHeld := hNext
    clear hNext
    try simp only [List.getElem_toArray, List.getElem_cons_succ, List.getElem_cons_zero, Act.put, List.setIfInBounds_toArray, List.set_cons_zero, List.set_cons_succ]
    refine wpAnyH_ready (rs := [31]) (by kernel_rfl) (by simp) ?_
    refine AllReadyH.cons rfl (fun K hK => ?_) AllReadyH.nil
    go_simp
    go_at_call 12; ((with_reducible refine (samep_any a3 a4 c3 c4 R R _ ((HR3.out.prs rfl).below HV4.out) (HR4.out.prs rfl) true (decide_eq_true rfl)).mono ?_); rintro e v5 ⟨rfl, hb5⟩; have HV5 := Lib.hid hb5; clear hb5)
    refine hK.out _ _ ?_ (fun hNext => ?_)
    · exact mk_keep24 (mk_keep24 (mk_keep24 (mk_keep24 (mk_keep24 HS9.out HV1.out) HV2.out) HV3.out) HV4.out) HV5.out
    clear hK K hHeld
    have hHeld := hNext
    clear hNext
    try simp only [List.getElem_toArray, List.getElem_cons_succ, List.getElem_cons_zero, Act.put, List.setIfInBounds_toArray, List.set_cons_zero, List.set_cons_succ]
    refine wpAnyH_take (i := 32) (v := ?_) rfl (by kernel_rfl) (by kernel_rfl) (by kernel_rfl) (fun _ _ _ h => h) (Or.inl ⟨by rfl, ?_⟩) hHeld ?_
    rotate_left
    · (intro wS hSw; (obtain ⟨s0, s1, s2, s3, s4, s5, s6, s7, s8, s9, s10, s11, s12, s13, s14, s15, s16, s17, s18, s19, s20, s21, s22, s23⟩ := hSw); go_simp; try with_reducible rfl)
    try simp only [List.getElem_toArray, List.getElem_cons_succ, List.getElem_cons_zero, Act.put, List.setIfInBounds_toArray, List.set_cons_zero, List.set_cons_succ]
    refine wpAnyH_take (i := 33) (v := ?_) rfl (by kernel_rfl) (by kernel_rfl) (by kernel_rfl) (fun _ _ _ h => h) (Or.inl ⟨by rfl, ?_⟩) hHeld ?_
    rotate_left
    · (intro wS hSw; (obtain ⟨s0, s1, s2, s3, s4, s5, s6, s7, s8, s9, s10, s11, s12, s13, s14, s15, s16, s17, s18, s19, s20, s21, s22, s23⟩ := hSw); go_simp; try with_reducible rfl)
    try simp only [List.getElem_toArray, List.getElem_cons_succ, List.getElem_cons_zero, Act.put, List.setIfInBounds_toArray, List.set_cons_zero, List.set_cons_succ]
    refine wpAnyH_ready (rs := [34]) (by kernel_rfl) (by simp) ?_
    refine AllReadyH.cons rfl (fun K hK => ?_) AllReadyH.nil
    go_simp
    go_at_call 9; ((with_reducible refine (ca _).mono ?_); rintro e v6 ⟨rfl, hb6⟩; have HV6 := Lib.hid hb6; clear hb6)
    refine hK.out _ _ ?_ (fun hNext => ?_)
    · exact mk_keep24 (mk_keep24 (mk_keep24 (mk_keep24 (mk_keep24 (mk_keep24 HS9.out HV1.out) HV2.out) HV3.out) HV4.out) HV5.out) HV6.out
    clear hK K hHeld
    have hHeld := hNext
    clear hNext
    try simp only [List.getElem_toArray, List.getElem_cons_succ, List.getElem_cons_zero, Act.put, List.setIfInBounds_toArray, List.set_cons_zero, List.set_cons_succ]
    refine wpAnyH_take (i := 35) (v := ?_) rfl (by kernel_rfl) (by kernel_rfl) (by kernel_rfl) (fun _ _ _ h => h) (Or.inl ⟨by rfl, ?_⟩) hHeld ?_
    rotate_left
    · (intro wS hSw; (obtain ⟨s0, s1, s2, s3, s4, s5, s6, s7, s8, s9, s10, s11, s12, s13, s14, s15, s16, s17, s18, s19, s20, s21, s22, s23⟩ := hSw); go_simp; try with_reducible rfl)
    try simp only [List.getElem_toArray, List.getElem_cons_succ, List.getElem_cons_zero, Act.put, List.setIfInBounds_toArray, List.set_cons_zero, List.set_cons_succ]
    refine wpAnyH_take (i := 36) (v := ?_) rfl (by kernel_rfl) (by kernel_rfl) (by kernel_rfl) (fun _ _ _ h => h) (Or.inl ⟨by rfl, ?_⟩) hHeld ?_
    rotate_left
    · (intro wS hSw; (obtain ⟨s0, s1, s2, s3, s4, s5, s6, s7, s8, s9, s10, s11, s12, s13, s14, s15, s16, s17, s18, s19, s20, s21, s22, s23⟩ := hSw); go_simp; try with_reducible rfl)
    try simp only [List.getElem_toArray, List.getElem_cons_succ, List.getElem_cons_zero, Act.put, List.setIfInBounds_toArray, List.set_cons_zero, List.set_cons_succ]
    refine wpAnyH_done (by kernel_rfl) ?_ _
    go_wp2_with (fail)
    go_ret
    exact ⟨rfl, bel2 (bel2 (bel2 (bel2 (bel2 HK9.out.bw HV12.out) HV3.out) HV4.out) HV5.out) HV6.out⟩

set_option maxRecDepth 100000 in
theorem lifted (os : Os) (started : os.Started) (H : Type) (enc : TypeId × Value → H) :
    ReturnsInHanded {} Try.checked os 5 .any (Rows.modelKeysSpec.pre6 enc Try.prog Try.f5 Rows.modelKeysRow.domain false) (Rows.modelKeysSpec.post enc Try.prog Try.f5 false true false false) := by
  refine returnsInHanded_of_change (C := Try.checked) own started (by kernel_rfl) Try.func5
    (ChangeSpec.witness6 (enc := enc) (C := Try.checked) false ⟨#[], #[.slice none 0 0, .agg #[.int .i64 0, .int .i64 0, .int .i64 0, .int .i64 0], .agg #[.int .i64 0, .int .i64 0, .int .i64 0, .int .i64 0]], []⟩ 8 (by kernel_rfl) (by kernel_rfl) (by kernel_rfl) (by kernel_rfl)) ?_
  intro W base args ds gs before hval0 hW hcnd _
  have hval : ∀ (j : Nat) t v, Try.f5.params[j]? = some t → args[j]? = some v → Value.okWide Try.prog W .any base t v := hval0
  have hW' := hW
  obtain ⟨p, q, hA0, hV, rfl, hfz, hnd⟩ := hW
  have hA : DataW.TrodAll enc Try.prog W 0 (fun _ => true) true Try.f5.params.toList args.toList ds p := hA0
  rw [Try.params5] at hA hval
  obtain ⟨v0, vs0, d0, ds0, p0, q0, hargs, rfl, rfl, h0, r0⟩ := trodAll_cons hA
  obtain ⟨v1, vs1, d1, ds1, p1, q1, rfl, rfl, rfl, h1, r1⟩ := trodAll_cons r0
  obtain ⟨v2, vs2, d2, ds2, p2, q2, rfl, rfl, rfl, h2, r2⟩ := trodAll_cons r1
  obtain ⟨rfl, rfl, rfl⟩ := trodAll_nil r2
  obtain rfl : args = #[v0, v1, v2] := by cases args; simp_all
  obtain ⟨rfl, rfl⟩ := trodVars_none hV
  have k0 := h0
  have lt0 : ∀ x ∈ p0, x.block < W.heap.size := by obtain ⟨m, hm⟩ := k0; exact DataW.trod_lt m _ _ _ hm
  obtain ⟨b0, l0, c0, rfl⟩ := okWide_slice Try.underlying22 (hval 0 22 v0 rfl rfl)
  obtain ⟨a0, cap0, z0, e0, w0⟩ := open_pairs (enc := enc) (w := W) (v := .slice b0 l0 c0) (fuel := h0.choose) (by simpa [Value.cells] using h0.choose_spec)
  rw [e0] at hval k0 h0 hW' hval0 hA0
  have k1 := h1
  have lt1 : ∀ x ∈ p1, x.block < W.heap.size := by obtain ⟨m, hm⟩ := k1; exact DataW.trod_lt m _ _ _ hm
  obtain ⟨u1, rfl, _⟩ := okWide_struct Try.underlying33 (hval 1 33 v1 rfl rfl)
  obtain ⟨o1, e1, w1⟩ := fields_op (enc := enc) (w := W) (cs := u1.toList) (fuel := h1.choose) (by simpa [Value.cells] using h1.choose_spec)
  obtain rfl : u1 = #[.int .i64 o1.c, .int .i64 o1.k, .int .i64 o1.h, .int .i64 o1.v] := by cases u1; simp_all
  have k2 := h2
  have lt2 : ∀ x ∈ p2, x.block < W.heap.size := by obtain ⟨m, hm⟩ := k2; exact DataW.trod_lt m _ _ _ hm
  obtain ⟨u2, rfl, _⟩ := okWide_struct Try.underlying33 (hval 2 33 v2 rfl rfl)
  obtain ⟨o2, e2, w2⟩ := fields_op (enc := enc) (w := W) (cs := u2.toList) (fuel := h2.choose) (by simpa [Value.cells] using h2.choose_spec)
  obtain rfl : u2 = #[.int .i64 o2.c, .int .i64 o2.k, .int .i64 o2.h, .int .i64 o2.v] := by cases u2; simp_all
  clear hA0 hval0
  rw [e0]; refine (walk a0 cap0 z0 o1 o2 W w0 w1 w2).mono fun e W' ⟨he, bel⟩ => ?_
  subst he
  exact ⟨_, rfl, _, _, _, [], _, [], hW', trodAll_mk1 (shut_bool Try.underlying4 _), (trodAll_cons_mk (Below.trod laidOut (by kernel_rfl) (of_decide_eq_true (by kernel_rfl)) k0 bel lt0) (trodAll_cons_mk (Below.trod laidOut (by kernel_rfl) (of_decide_eq_true (by kernel_rfl)) k1 bel lt1) (trodAll_cons_mk (Below.trod laidOut (by kernel_rfl) (of_decide_eq_true (by kernel_rfl)) k2 bel lt2) trodAll_mk0))), rfl, bel.frame _, fun h => by cases h⟩

theorem over : Rows.modelKeysRow.holds Try.pinned (OpenSpec.ofChange Rows.modelKeysSpec) :=
  OpenClaim.holds_of_wide 5 Try.f5 rfl rfl rfl rfl rfl rfl rfl ⟨rfl, rfl, rfl, rfl, rfl⟩ rfl rfl rfl rfl rfl (by kernel_rfl) Try.func5 (by kernel_rfl)
    (of_decide_eq_true (by kernel_rfl)) (by unfold Func.isWrapper; first | (rw [if_pos (by decide +kernel)]; kernel_rfl) | (rw [if_neg (by decide +kernel)]; exact ⟨rfl, rfl⟩))
    (fun os started H enc _ => lifted os started H enc)

theorem modelKeysHolds : Rows.ModelKeysSaid := over
#print axioms modelKeysHolds
end Go.Proofs.Ytooengicfjcchaa.modelKeys
