/- ModelCuts (P16.2): a map of up to 60 pairs into which a pair is put and then cut tells that pair at the cut, tells that it is not there at a second cut, and has the pairs that it had without that key. No condition. -/
import Derived.Test.YtooengicfjcchaaRows
import Derived.Test.YtooengicfjcchaaMdL
import Derived.LoopTactic
import Derived.WalkKit
import Derived.ProofKit
import Derived.OpenShut
import Derived.ChangeOld
import Derived.Below
namespace Go.Proofs.Ytooengicfjcchaa.modelCuts
open Go.ChangeShapes Go.WideShapes Go.ChangeAt Go.RowKit
set_option linter.all false

theorem own : ownKnob Try.prog.godebug = none := by kernel_rfl
theorem laidOut : laidOutB Try.prog = true := by kernel_rfl

theorem ms_keep {W W' : World} {q0 q1 q2 q3 q4 q5 : Addr} {u0 u1 u2 u3 u4 u5 : Value} (h : W.cell? q0 = some u0 ∧ W.cell? q1 = some u1 ∧ W.cell? q2 = some u2 ∧ W.cell? q3 = some u3 ∧ W.cell? q4 = some u4 ∧ W.cell? q5 = some u5) (hb : Below W.heap.size W W') : W'.cell? q0 = some u0 ∧ W'.cell? q1 = some u1 ∧ W'.cell? q2 = some u2 ∧ W'.cell? q3 = some u3 ∧ W'.cell? q4 = some u4 ∧ W'.cell? q5 = some u5 := by
  obtain ⟨h0, h1, h2, h3, h4, h5⟩ := h
  exact ⟨cell_keep h0 hb, cell_keep h1 hb, cell_keep h2 hb, cell_keep h3 hb, cell_keep h4 hb, cell_keep h5 hb⟩

set_option maxRecDepth 100000 in
set_option maxHeartbeats 12800000 in
theorem walk (a0 : Option Addr) (cap0 : Nat) (z0 : List Pr) (k1 v1 : Int) (w : World) (w0 : Prs w a0 cap0 z0) (w1 : (Lit.int .i64 k1).wf = true ∧ (Lit.int .i64 v1).wf = true) :
    Calls Try.prog 8 #[.slice a0 z0.length cap0, .agg #[.int .i64 k1, .int .i64 v1]] w fun e w' => e = .returned (.bool true) ∧ Below w.heap.size w w' := by
  have H0 := Lib.hid w0
  have hc := w0.1
  have hcm := w0.2.1
  have HW1 : Hid (OpD.wf ⟨1, k1, 0, v1⟩ ∧ OpD.wf ⟨3, k1, 0, 0⟩) := Lib.hid ⟨⟨(by decide : (Lit.int .i64 1).wf = true), w1.1, (by decide : (Lit.int .i64 0).wf = true), w1.2⟩, ⟨(by decide : (Lit.int .i64 3).wf = true), w1.1, (by decide : (Lit.int .i64 0).wf = true), (by decide : (Lit.int .i64 0).wf = true)⟩⟩
  unfold maxLen at hcm
  clear w0 w1
  have ca := fun W => awake_any W
  have ba := Lib.hid (bel1 (Below.refl _ w) (.cells #[.int .i64 k1, .int .i64 v1] 28))
  by_cases hbig : 60 < z0.length
  · have hbig' : (60 : Int) < (z0.length : Int) := by omega
    go_enter Try.func8, Try.ntmps8
    go_wp2_with (go_at_call 9; ((with_reducible refine (ca _).mono ?_); rintro e w3 ⟨rfl, hb⟩))
    go_ret
    exact ⟨rfl, bel2 ba.out hb⟩
  have hbig' : ¬ (60 : Int) < (z0.length : Int) := by omega
  have HL : Hid (z0.length ≤ 60) := Lib.hid (by omega)
  clear hbig
  have cn := fun W h => new_any a0 cap0 z0 W h (by have := HL.out; omega)
  have P0 : Hid (Blk (w.alloc (.cells #[.int .i64 k1, .int .i64 v1] 28)) w.heap.size [.int .i64 k1, .int .i64 v1]) := Lib.hid (Blk.new w #[.int .i64 k1, .int .i64 v1] _)
  go_enter Try.func8, Try.ntmps8
  go_wp2_with (first
    | (go_at_call 10; ((with_reducible refine (cn _ (H0.out.below ba.out)).mono ?_); clear cn; rintro e w2 ⟨b, rfl, hb0, hM, hB⟩; have HM := Lib.hid hM; have HB := Lib.hid (bel2 ba.out hB); have HP2 := Lib.hid (P0.out.keep hB); have HB0 : Hid (w.heap.size ≤ b ∧ (∀ j, (j < (w.alloc (.cells #[.int .i64 k1, .int .i64 v1] 28)).heap.size ∨ j = b) → j ≤ b) ∧ w.heap.size < b) := Lib.hid ⟨Nat.le_trans ba.out.size hb0, fun j hj => hj.elim (fun hj => Nat.le_of_lt (Nat.lt_of_lt_of_le hj hb0)) (fun hj => Nat.le_of_eq hj), by simp only [World.size_alloc] at hb0; omega⟩; clear hb0 hM hB)))
  go_loopw [6, 18] (fun x y wr => ∃ (i n : Nat) (ao : Option Addr) (cp : Nat) (L : List Pr), x = .slice ao n cp ∧ y = .int .i64 i ∧ n = L.length ∧ i ≤ z0.length ∧ n ≤ z0.length ∧ L = putsL (z0.take i) ∧ PRow wr (fun j => j ≤ b) (.slice ao n cp) L ∧ Below w2.heap.size w2 wr) (fun _ y _ => z0.length - (intOf y).toNat)
  case atStart => exact ⟨0, 0, none, 0, [], rfl, rfl, rfl, Nat.zero_le _, Nat.zero_le _, rfl, PRow.nil _ _, Below.refl _ _⟩
  case round =>
    obtain ⟨i, n, ao, cp, L, rfl, rfl, rfl, hi, hln, hL, hR, hb⟩ := hrel
    have HR := Lib.hid hR
    have HBR := Lib.hid hb
    have HLL := Lib.hid hL
    clear hR hb hL
    by_cases hlt : i < z0.length
    · obtain ⟨q, hq⟩ : ∃ q, z0[i]? = some q := ⟨_, List.getElem?_eq_getElem hlt⟩
      obtain ⟨ob, oo, rfl, q0, q1⟩ := (H0.out.below (bel2 HB.out HBR.out)).2.2.1 i q hq
      have HT := Lib.hid (putsL_take hq)
      have hlen := putsL_tl z0 (i + 1)
      rw [putsL_take hq, ← HLL.out] at hlen
      clear hq
      obtain ⟨x0, x1⟩ := q
      dsimp only at q0 q1 HT hlen
      have hltI : (i : Int) < (z0.length : Int) := by omega
      have cw := with_is ao cp L x0 x1 _ ((HR.out.prs rfl).below (bel1 (Below.refl _ wr) (.cells #[.int .i64 x0, .int .i64 x1] 28))) (by have := HL.out; omega)
      have HLn := Lib.hid hlen
      clear hlen
      go_wp2_with (go_at_call 11; ((with_reducible refine cw.mono ?_); clear cw; rintro e w3 ⟨⟨a3, c3, rfl, hR3, hb3⟩, -⟩; have HR3 := Lib.hid (hR3.next (b := b) (by have h1 := HM.out.lt; have h2 := HBR.out.size; simp; omega)); have HB3 := Lib.hid (bel2 (bel1 HBR.out (.cells #[.int .i64 x0, .int .i64 x1] 28)) hb3); clear hR3 hb3))
      go_roundw
      case rel => exact ⟨i + 1, _, a3, c3, withL L x0 x1, rfl, by go_num, rfl, hlt, HLn.out, by rw [HT.out, HLL.out], HR3.out, HB3.out⟩
      case measure => simp [intOf]; omega
    · obtain rfl : i = z0.length := by omega
      have hltI : ¬ (z0.length : Int) < (z0.length : Int) := by omega
      have hL := HLL.out
      rw [List.take_of_length_le (Nat.le_refl _)] at hL
      have HSRT : Hid (Srt L) := Lib.hid (by rw [hL]; exact putsL_srt z0)
      rw [← hL] at HM
      have HMR := Lib.hid (HM.out.below HBR.out)
      have HPR := Lib.hid (HP2.out.keep HBR.out)
      have HBB := Lib.hid (bel2 HB.out HBR.out)
      have p0 := HPR.out 0 _ rfl
      have p1 := HPR.out 1 _ rfl
      clear hL HLL HM HP2 HB
      have cr := mrun_any b _ L (some ⟨wr.heap.size, 0, none⟩) 3 [⟨1, k1, 0, v1⟩, ⟨3, k1, 0, 0⟩, ⟨3, k1, 0, 0⟩] _ (HMR.out.below (al1 _)) (fun j hj => by have h1 := HB0.out.2.1 j hj; have h2 := HMR.out.lt; simp; omega) (ops3 wr ⟨1, k1, 0, v1⟩ ⟨3, k1, 0, 0⟩ ⟨3, k1, 0, 0⟩ HW1.out.1 HW1.out.2 HW1.out.2) (fun ad e => by cases e; have h2 := HMR.out.lt; show ¬ wr.heap.size = b; omega) (by have := HL.out; simp only [List.length_cons, List.length_nil]; omega) (by simp)
      unfold RunIs at cr
      obtain ⟨D, hD⟩ := cuts_A HSRT.out k1 v1
      rw [hD, cuts_P HSRT.out] at cr
      clear hD
      dsimp only [List.length_cons, List.length_nil, Nat.zero_add, Nat.reduceAdd] at cr
      go_wp2_with (go_at_call 15; ((with_reducible refine cr.mono ?_); clear cr; rintro e w4 ⟨rfl, hT, hM4, hO4⟩; obtain ⟨_, _, A1⟩ := hT.at_ 1 _ rfl (by decide); obtain ⟨_, _, A2⟩ := hT.at_ 2 _ rfl (by decide); (simp only [World.size_alloc] at A1 A2); have HA := Lib.hid (And.intro A1 A2); have HM4 := Lib.hid hM4; have HO4 := Lib.hid ((Only.ofBelow (S := fun k => k = b) (al1 _)).trans hO4 (fun k hk _ => hk)); clear hT hM4 hO4 A1 A2))
      have HS4 : Hid (w4.cell? ⟨wr.heap.size + 1, 7, none⟩ = some (.bool true) ∧ w4.cell? ⟨wr.heap.size + 1, 8, none⟩ = some (.int .i64 k1) ∧ w4.cell? ⟨wr.heap.size + 1, 9, none⟩ = some (.int .i64 v1) ∧ w4.cell? ⟨wr.heap.size + 1, 13, none⟩ = some (.bool false) ∧ w4.cell? ⟨w.heap.size, 0, none⟩ = some (.int .i64 k1) ∧ w4.cell? ⟨w.heap.size, 1, none⟩ = some (.int .i64 v1)) := Lib.hid ⟨HA.out.1.c1, HA.out.1.c2, HA.out.1.c3, HA.out.2.c1, HO4.out.cell p0 (show ¬ (w.heap.size = b) from by have h3 := HB0.out.2.2; omega), HO4.out.cell p1 (show ¬ (w.heap.size = b) from by have h3 := HB0.out.2.2; omega)⟩
      have HW4 := Lib.hid (HR.out.keep1 HO4.out)
      have HBW := Lib.hid (HBB.out.trans (HO4.out.below (fun i hi => by rw [hi]; exact HB0.out.1) HBB.out.size))
      have HCL : Hid ((cutL L k1).length ≤ 100000) := Lib.hid (by have h1 := cutL_len L k1; have h2 := HL.out; omega)
      have cwo := fun W hw => without_is ao cp L k1 W hw (by have := HL.out; omega)
      clear p0 p1 HA
      refine wp_region_held_drew (S := (fun W => W.cell? ⟨wr.heap.size + 1, 7, none⟩ = some (.bool true) ∧ W.cell? ⟨wr.heap.size + 1, 8, none⟩ = some (.int .i64 k1) ∧ W.cell? ⟨wr.heap.size + 1, 9, none⟩ = some (.int .i64 v1) ∧ W.cell? ⟨wr.heap.size + 1, 13, none⟩ = some (.bool false) ∧ W.cell? ⟨w.heap.size, 0, none⟩ = some (.int .i64 k1) ∧ W.cell? ⟨w.heap.size, 1, none⟩ = some (.int .i64 v1))) (by kernel_rfl) (by first | exact HS4.out) (fun hHeld => ?_)
      refine wpAnyH_take (i := 0) (v := ?_) rfl (by kernel_rfl) (by kernel_rfl) (by kernel_rfl) (fun _ _ _ h => h) (Or.inl ⟨by rfl, ?_⟩) hHeld ?_
      rotate_left
      · (intro wS hSw; (obtain ⟨s0, s1, s2, s3, s4, s5⟩ := hSw); go_simp; try with_reducible rfl)
      try simp only [List.getElem_toArray, List.getElem_cons_succ, List.getElem_cons_zero, Act.put, List.setIfInBounds_toArray, List.set_cons_zero, List.set_cons_succ]
      refine wpAnyH_take (i := 1) (v := ?_) rfl (by kernel_rfl) (by kernel_rfl) (by kernel_rfl) (fun _ _ _ h => h) (Or.inl ⟨by rfl, ?_⟩) hHeld ?_
      rotate_left
      · (intro wS hSw; (obtain ⟨s0, s1, s2, s3, s4, s5⟩ := hSw); go_simp; try with_reducible rfl)
      try simp only [List.getElem_toArray, List.getElem_cons_succ, List.getElem_cons_zero, Act.put, List.setIfInBounds_toArray, List.set_cons_zero, List.set_cons_succ]
      refine wpAnyH_take (i := 2) (v := ?_) rfl (by kernel_rfl) (by kernel_rfl) (by kernel_rfl) (fun _ _ _ h => h) (Or.inl ⟨by rfl, ?_⟩) hHeld ?_
      rotate_left
      · (intro wS hSw; (obtain ⟨s0, s1, s2, s3, s4, s5⟩ := hSw); go_simp; try with_reducible rfl)
      try simp only [List.getElem_toArray, List.getElem_cons_succ, List.getElem_cons_zero, Act.put, List.setIfInBounds_toArray, List.set_cons_zero, List.set_cons_succ]
      refine wpAnyH_take (i := 3) (v := ?_) rfl (by kernel_rfl) (by kernel_rfl) (by kernel_rfl) (fun _ _ _ h => h) (Or.inl ⟨by rfl, ?_⟩) hHeld ?_
      rotate_left
      · (intro wS hSw; (obtain ⟨s0, s1, s2, s3, s4, s5⟩ := hSw); go_simp; try with_reducible rfl)
      try simp only [List.getElem_toArray, List.getElem_cons_succ, List.getElem_cons_zero, Act.put, List.setIfInBounds_toArray, List.set_cons_zero, List.set_cons_succ]
      refine wpAnyH_take (i := 4) (v := ?_) rfl (by kernel_rfl) (by kernel_rfl) (by kernel_rfl) (fun _ _ _ h => h) (Or.inl ⟨by rfl, ?_⟩) hHeld ?_
      rotate_left
      · (intro wS hSw; (obtain ⟨s0, s1, s2, s3, s4, s5⟩ := hSw); go_simp; try with_reducible rfl)
      try simp only [List.getElem_toArray, List.getElem_cons_succ, List.getElem_cons_zero, Act.put, List.setIfInBounds_toArray, List.set_cons_zero, List.set_cons_succ]
      refine wpAnyH_take (i := 5) (v := ?_) rfl (by kernel_rfl) (by kernel_rfl) (by kernel_rfl) (fun _ _ _ h => h) (Or.inl ⟨by rfl, ?_⟩) hHeld ?_
      rotate_left
      · (intro wS hSw; (obtain ⟨s0, s1, s2, s3, s4, s5⟩ := hSw); go_simp; try with_reducible rfl)
      try simp only [List.getElem_toArray, List.getElem_cons_succ, List.getElem_cons_zero, Act.put, List.setIfInBounds_toArray, List.set_cons_zero, List.set_cons_succ]
      refine wpAnyH_take (i := 6) (v := ?_) rfl (by kernel_rfl) (by kernel_rfl) (by kernel_rfl) (fun _ _ _ h => h) (Or.inl ⟨by rfl, ?_⟩) hHeld ?_
      rotate_left
      · (intro wS hSw; (obtain ⟨s0, s1, s2, s3, s4, s5⟩ := hSw); go_simp; try with_reducible rfl)
      try simp only [List.getElem_toArray, List.getElem_cons_succ, List.getElem_cons_zero, Act.put, List.setIfInBounds_toArray, List.set_cons_zero, List.set_cons_succ]
      refine wpAnyH_take (i := 7) (v := ?_) rfl (by kernel_rfl) (by kernel_rfl) (by kernel_rfl) (fun _ _ _ h => h) (Or.inl ⟨by rfl, ?_⟩) hHeld ?_
      rotate_left
      · (intro wS hSw; (obtain ⟨s0, s1, s2, s3, s4, s5⟩ := hSw); go_simp; try with_reducible rfl)
      try simp only [List.getElem_toArray, List.getElem_cons_succ, List.getElem_cons_zero, Act.put, List.setIfInBounds_toArray, List.set_cons_zero, List.set_cons_succ]
      refine wpAnyH_take (i := 8) (v := ?_) rfl (by kernel_rfl) (by kernel_rfl) (by kernel_rfl) (fun _ _ _ h => h) (Or.inl ⟨by rfl, ?_⟩) hHeld ?_
      rotate_left
      · (intro wS hSw; (obtain ⟨s0, s1, s2, s3, s4, s5⟩ := hSw); go_simp; try with_reducible rfl)
      try simp only [List.getElem_toArray, List.getElem_cons_succ, List.getElem_cons_zero, Act.put, List.setIfInBounds_toArray, List.set_cons_zero, List.set_cons_succ]
      refine wpAnyH_take (i := 9) (v := ?_) rfl (by kernel_rfl) (by kernel_rfl) (by kernel_rfl) (fun _ _ _ h => h) (Or.inl ⟨by rfl, ?_⟩) hHeld ?_
      rotate_left
      · (intro wS hSw; (obtain ⟨s0, s1, s2, s3, s4, s5⟩ := hSw); go_simp; try with_reducible rfl)
      try simp only [List.getElem_toArray, List.getElem_cons_succ, List.getElem_cons_zero, Act.put, List.setIfInBounds_toArray, List.set_cons_zero, List.set_cons_succ]
      refine wpAnyH_take (i := 10) (v := ?_) rfl (by kernel_rfl) (by kernel_rfl) (by kernel_rfl) (fun _ _ _ h => h) (Or.inl ⟨by rfl, ?_⟩) hHeld ?_
      rotate_left
      · (intro wS hSw; (obtain ⟨s0, s1, s2, s3, s4, s5⟩ := hSw); go_simp; try with_reducible rfl)
      try simp only [List.getElem_toArray, List.getElem_cons_succ, List.getElem_cons_zero, Act.put, List.setIfInBounds_toArray, List.set_cons_zero, List.set_cons_succ]
      refine wpAnyH_take (i := 11) (v := ?_) rfl (by kernel_rfl) (by kernel_rfl) (by kernel_rfl) (fun _ _ _ h => h) (Or.inl ⟨by rfl, ?_⟩) hHeld ?_
      rotate_left
      · (intro wS hSw; (obtain ⟨s0, s1, s2, s3, s4, s5⟩ := hSw); go_simp; try with_reducible rfl)
      try simp only [List.getElem_toArray, List.getElem_cons_succ, List.getElem_cons_zero, Act.put, List.setIfInBounds_toArray, List.set_cons_zero, List.set_cons_succ]
      refine wpAnyH_take (i := 12) (v := ?_) rfl (by kernel_rfl) (by kernel_rfl) (by kernel_rfl) (fun _ _ _ h => h) (Or.inl ⟨by rfl, ?_⟩) hHeld ?_
      rotate_left
      · (intro wS hSw; (obtain ⟨s0, s1, s2, s3, s4, s5⟩ := hSw); go_simp; try with_reducible rfl)
      try simp only [List.getElem_toArray, List.getElem_cons_succ, List.getElem_cons_zero, Act.put, List.setIfInBounds_toArray, List.set_cons_zero, List.set_cons_succ]
      refine wpAnyH_take (i := 13) (v := ?_) rfl (by kernel_rfl) (by kernel_rfl) (by kernel_rfl) (fun _ _ _ h => h) (Or.inl ⟨by rfl, ?_⟩) hHeld ?_
      rotate_left
      · (intro wS hSw; (obtain ⟨s0, s1, s2, s3, s4, s5⟩ := hSw); go_simp; try with_reducible rfl)
      try simp only [List.getElem_toArray, List.getElem_cons_succ, List.getElem_cons_zero, Act.put, List.setIfInBounds_toArray, List.set_cons_zero, List.set_cons_succ]
      refine wpAnyH_take (i := 14) (v := ?_) rfl (by kernel_rfl) (by kernel_rfl) (by kernel_rfl) (fun _ _ _ h => h) (Or.inl ⟨by rfl, ?_⟩) hHeld ?_
      rotate_left
      · (intro wS hSw; (obtain ⟨s0, s1, s2, s3, s4, s5⟩ := hSw); go_simp; try with_reducible rfl)
      try simp only [List.getElem_toArray, List.getElem_cons_succ, List.getElem_cons_zero, Act.put, List.setIfInBounds_toArray, List.set_cons_zero, List.set_cons_succ]
      refine wpAnyH_take (i := 15) (v := ?_) rfl (by kernel_rfl) (by kernel_rfl) (by kernel_rfl) (fun _ _ _ h => h) (Or.inl ⟨by rfl, ?_⟩) hHeld ?_
      rotate_left
      · (intro wS hSw; (obtain ⟨s0, s1, s2, s3, s4, s5⟩ := hSw); go_simp; try with_reducible rfl)
      try simp only [List.getElem_toArray, List.getElem_cons_succ, List.getElem_cons_zero, Act.put, List.setIfInBounds_toArray, List.set_cons_zero, List.set_cons_succ]
      refine wpAnyH_take (i := 16) (v := ?_) rfl (by kernel_rfl) (by kernel_rfl) (by kernel_rfl) (fun _ _ _ h => h) (Or.inl ⟨by rfl, ?_⟩) hHeld ?_
      rotate_left
      · (intro wS hSw; (obtain ⟨s0, s1, s2, s3, s4, s5⟩ := hSw); go_simp; try with_reducible rfl)
      try simp only [List.getElem_toArray, List.getElem_cons_succ, List.getElem_cons_zero, Act.put, List.setIfInBounds_toArray, List.set_cons_zero, List.set_cons_succ]
      refine wpAnyH_take (i := 17) (v := ?_) rfl (by kernel_rfl) (by kernel_rfl) (by kernel_rfl) (fun _ _ _ h => h) (Or.inl ⟨by rfl, ?_⟩) hHeld ?_
      rotate_left
      · (intro wS hSw; (obtain ⟨s0, s1, s2, s3, s4, s5⟩ := hSw); go_simp; try with_reducible rfl)
      try simp only [List.getElem_toArray, List.getElem_cons_succ, List.getElem_cons_zero, Act.put, List.setIfInBounds_toArray, List.set_cons_zero, List.set_cons_succ]
      refine wpAnyH_take (i := 18) (v := ?_) rfl (by kernel_rfl) (by kernel_rfl) (by kernel_rfl) (fun _ _ _ h => h) (Or.inl ⟨by rfl, ?_⟩) hHeld ?_
      rotate_left
      · (intro wS hSw; (obtain ⟨s0, s1, s2, s3, s4, s5⟩ := hSw); go_simp; try with_reducible rfl)
      try simp only [List.getElem_toArray, List.getElem_cons_succ, List.getElem_cons_zero, Act.put, List.setIfInBounds_toArray, List.set_cons_zero, List.set_cons_succ]
      refine wpAnyH_take (i := 19) (v := ?_) rfl (by kernel_rfl) (by kernel_rfl) (by kernel_rfl) (fun _ _ _ h => h) (Or.inl ⟨by rfl, ?_⟩) hHeld ?_
      rotate_left
      · (intro wS hSw; (obtain ⟨s0, s1, s2, s3, s4, s5⟩ := hSw); go_simp; try with_reducible rfl)
      try simp only [List.getElem_toArray, List.getElem_cons_succ, List.getElem_cons_zero, Act.put, List.setIfInBounds_toArray, List.set_cons_zero, List.set_cons_succ]
      refine wpAnyH_take (i := 20) (v := ?_) rfl (by kernel_rfl) (by kernel_rfl) (by kernel_rfl) (fun _ _ _ h => h) (Or.inl ⟨by rfl, ?_⟩) hHeld ?_
      rotate_left
      · (intro wS hSw; (obtain ⟨s0, s1, s2, s3, s4, s5⟩ := hSw); go_simp; try with_reducible rfl)
      try simp only [List.getElem_toArray, List.getElem_cons_succ, List.getElem_cons_zero, Act.put, List.setIfInBounds_toArray, List.set_cons_zero, List.set_cons_succ]
      refine wpAnyH_take (i := 21) (v := ?_) rfl (by kernel_rfl) (by kernel_rfl) (by kernel_rfl) (fun _ _ _ h => h) (Or.inl ⟨by rfl, ?_⟩) hHeld ?_
      rotate_left
      · (intro wS hSw; (obtain ⟨s0, s1, s2, s3, s4, s5⟩ := hSw); go_simp; try with_reducible rfl)
      try simp only [List.getElem_toArray, List.getElem_cons_succ, List.getElem_cons_zero, Act.put, List.setIfInBounds_toArray, List.set_cons_zero, List.set_cons_succ]
      refine wpAnyH_take (i := 22) (v := ?_) rfl (by kernel_rfl) (by kernel_rfl) (by kernel_rfl) (fun _ _ _ h => h) (Or.inl ⟨by rfl, ?_⟩) hHeld ?_
      rotate_left
      · (intro wS hSw; (obtain ⟨s0, s1, s2, s3, s4, s5⟩ := hSw); go_simp; try with_reducible rfl)
      try simp only [List.getElem_toArray, List.getElem_cons_succ, List.getElem_cons_zero, Act.put, List.setIfInBounds_toArray, List.set_cons_zero, List.set_cons_succ]
      refine wpAnyH_take (i := 23) (v := ?_) rfl (by kernel_rfl) (by kernel_rfl) (by kernel_rfl) (fun _ _ _ h => h) (Or.inl ⟨by rfl, ?_⟩) hHeld ?_
      rotate_left
      · (intro wS hSw; (obtain ⟨s0, s1, s2, s3, s4, s5⟩ := hSw); go_simp; try with_reducible rfl)
      try simp only [List.getElem_toArray, List.getElem_cons_succ, List.getElem_cons_zero, Act.put, List.setIfInBounds_toArray, List.set_cons_zero, List.set_cons_succ]
      refine wpAnyH_take (i := 24) (v := ?_) rfl (by kernel_rfl) (by kernel_rfl) (by kernel_rfl) (fun _ _ _ h => h) (Or.inl ⟨by rfl, ?_⟩) hHeld ?_
      rotate_left
      · (intro wS hSw; (obtain ⟨s0, s1, s2, s3, s4, s5⟩ := hSw); go_simp; try with_reducible rfl)
      try simp only [List.getElem_toArray, List.getElem_cons_succ, List.getElem_cons_zero, Act.put, List.setIfInBounds_toArray, List.set_cons_zero, List.set_cons_succ]
      refine wpAnyH_take (i := 25) (v := ?_) rfl (by kernel_rfl) (by kernel_rfl) (by kernel_rfl) (fun _ _ _ h => h) (Or.inl ⟨by rfl, ?_⟩) hHeld ?_
      rotate_left
      · (intro wS hSw; (obtain ⟨s0, s1, s2, s3, s4, s5⟩ := hSw); go_simp; try with_reducible rfl)
      try simp only [List.getElem_toArray, List.getElem_cons_succ, List.getElem_cons_zero, Act.put, List.setIfInBounds_toArray, List.set_cons_zero, List.set_cons_succ]
      refine wpAnyH_take (i := 27) (v := ?_) rfl (by kernel_rfl) (by kernel_rfl) (by kernel_rfl) (fun _ _ _ h => h) (Or.inl ⟨by rfl, ?_⟩) hHeld ?_
      rotate_left
      · (intro wS hSw; (obtain ⟨s0, s1, s2, s3, s4, s5⟩ := hSw); go_simp; try with_reducible rfl)
      try simp only [List.getElem_toArray, List.getElem_cons_succ, List.getElem_cons_zero, Act.put, List.setIfInBounds_toArray, List.set_cons_zero, List.set_cons_succ]
      refine wpAnyH_take (i := 28) (v := ?_) rfl (by kernel_rfl) (by kernel_rfl) (by kernel_rfl) (fun _ _ _ h => h) (Or.inl ⟨by rfl, ?_⟩) hHeld ?_
      rotate_left
      · (intro wS hSw; (obtain ⟨s0, s1, s2, s3, s4, s5⟩ := hSw); go_simp; try with_reducible rfl)
      try simp only [List.getElem_toArray, List.getElem_cons_succ, List.getElem_cons_zero, Act.put, List.setIfInBounds_toArray, List.set_cons_zero, List.set_cons_succ]
      refine wpAnyH_take (i := 29) (v := ?_) rfl (by kernel_rfl) (by kernel_rfl) (by kernel_rfl) (fun _ _ _ h => h) (Or.inl ⟨by rfl, ?_⟩) hHeld ?_
      rotate_left
      · (intro wS hSw; (obtain ⟨s0, s1, s2, s3, s4, s5⟩ := hSw); go_simp; try with_reducible rfl)
      try simp only [List.getElem_toArray, List.getElem_cons_succ, List.getElem_cons_zero, Act.put, List.setIfInBounds_toArray, List.set_cons_zero, List.set_cons_succ]
      refine wpAnyH_ready (rs := [26]) (by kernel_rfl) (by simp) ?_
      refine AllReadyH.cons rfl (fun K hK => ?_) AllReadyH.nil
      go_simp
      go_at_call 13; ((with_reducible refine (mpairs_any b _ (cutL L k1) _ (HM4.out.below ((Below.refl _ _).drew)) HCL.out).mono ?_); rintro e w5 ⟨a5, c5, rfl, hR5, hb5⟩; have HB5 : Hid (Below w4.heap.size w4 w5) := Lib.hid (((Below.refl _ _).drew).trans hb5); have HR5 := Lib.hid hR5; clear hR5 hb5)
      refine hK.out _ _ ?_ (fun hNext => ?_)
      · exact ms_keep HS4.out HB5.out
      clear hK K hHeld
      have hHeld := hNext
      clear hNext
      try simp only [List.getElem_toArray, List.getElem_cons_succ, List.getElem_cons_zero, Act.put, List.setIfInBounds_toArray, List.set_cons_zero, List.set_cons_succ]
      refine wpAnyH_ready (rs := [30]) (by kernel_rfl) (by simp) ?_
      refine AllReadyH.cons rfl (fun K hK => ?_) AllReadyH.nil
      go_simp
      go_at_call 20; ((with_reducible refine (cwo _ ((HW4.out.prs rfl).below HB5.out)).mono ?_); rintro e w6 ⟨a6, c6, rfl, hR6, hb6⟩; have HB6 := Lib.hid hb6; have HR6 := Lib.hid hR6; clear hR6 hb6)
      refine hK.out _ _ ?_ (fun hNext => ?_)
      · exact ms_keep (ms_keep HS4.out HB5.out) HB6.out
      clear hK K hHeld
      have hHeld := hNext
      clear hNext
      try simp only [List.getElem_toArray, List.getElem_cons_succ, List.getElem_cons_zero, Act.put, List.setIfInBounds_toArray, List.set_cons_zero, List.set_cons_succ]
      refine wpAnyH_ready (rs := [31]) (by kernel_rfl) (by simp) ?_
      refine AllReadyH.cons rfl (fun K hK => ?_) AllReadyH.nil
      go_simp
      go_at_call 12; ((with_reducible refine (samep_any a5 a6 c5 c6 (cutL L k1) (cutL L k1) _ ((HR5.out.prs rfl).below HB6.out) (HR6.out.prs rfl) true (decide_eq_true rfl)).mono ?_); rintro e w7 ⟨rfl, hb7⟩; have HB7 := Lib.hid hb7; clear hb7)
      refine hK.out _ _ ?_ (fun hNext => ?_)
      · exact ms_keep (ms_keep (ms_keep HS4.out HB5.out) HB6.out) HB7.out
      clear hK K hHeld
      have hHeld := hNext
      clear hNext
      try simp only [List.getElem_toArray, List.getElem_cons_succ, List.getElem_cons_zero, Act.put, List.setIfInBounds_toArray, List.set_cons_zero, List.set_cons_succ]
      refine wpAnyH_take (i := 32) (v := ?_) rfl (by kernel_rfl) (by kernel_rfl) (by kernel_rfl) (fun _ _ _ h => h) (Or.inl ⟨by rfl, ?_⟩) hHeld ?_
      rotate_left
      · (intro wS hSw; (obtain ⟨s0, s1, s2, s3, s4, s5⟩ := hSw); go_simp; try with_reducible rfl)
      try simp only [List.getElem_toArray, List.getElem_cons_succ, List.getElem_cons_zero, Act.put, List.setIfInBounds_toArray, List.set_cons_zero, List.set_cons_succ]
      refine wpAnyH_take (i := 33) (v := ?_) rfl (by kernel_rfl) (by kernel_rfl) (by kernel_rfl) (fun _ _ _ h => h) (Or.inl ⟨by rfl, ?_⟩) hHeld ?_
      rotate_left
      · (intro wS hSw; (obtain ⟨s0, s1, s2, s3, s4, s5⟩ := hSw); go_simp; try with_reducible rfl)
      try simp only [List.getElem_toArray, List.getElem_cons_succ, List.getElem_cons_zero, Act.put, List.setIfInBounds_toArray, List.set_cons_zero, List.set_cons_succ]
      refine wpAnyH_ready (rs := [34]) (by kernel_rfl) (by simp) ?_
      refine AllReadyH.cons rfl (fun K hK => ?_) AllReadyH.nil
      go_simp
      go_at_call 9; ((with_reducible refine (ca _).mono ?_); rintro e w8 ⟨rfl, hb8⟩; have HB8 := Lib.hid hb8; clear hb8)
      refine hK.out _ _ ?_ (fun hNext => ?_)
      · exact ms_keep (ms_keep (ms_keep (ms_keep HS4.out HB5.out) HB6.out) HB7.out) HB8.out
      clear hK K hHeld
      have hHeld := hNext
      clear hNext
      try simp only [List.getElem_toArray, List.getElem_cons_succ, List.getElem_cons_zero, Act.put, List.setIfInBounds_toArray, List.set_cons_zero, List.set_cons_succ]
      refine wpAnyH_take (i := 35) (v := ?_) rfl (by kernel_rfl) (by kernel_rfl) (by kernel_rfl) (fun _ _ _ h => h) (Or.inl ⟨by rfl, ?_⟩) hHeld ?_
      rotate_left
      · (intro wS hSw; (obtain ⟨s0, s1, s2, s3, s4, s5⟩ := hSw); go_simp; try with_reducible rfl)
      try simp only [List.getElem_toArray, List.getElem_cons_succ, List.getElem_cons_zero, Act.put, List.setIfInBounds_toArray, List.set_cons_zero, List.set_cons_succ]
      refine wpAnyH_take (i := 36) (v := ?_) rfl (by kernel_rfl) (by kernel_rfl) (by kernel_rfl) (fun _ _ _ h => h) (Or.inl ⟨by rfl, ?_⟩) hHeld ?_
      rotate_left
      · (intro wS hSw; (obtain ⟨s0, s1, s2, s3, s4, s5⟩ := hSw); go_simp; try with_reducible rfl)
      try simp only [List.getElem_toArray, List.getElem_cons_succ, List.getElem_cons_zero, Act.put, List.setIfInBounds_toArray, List.set_cons_zero, List.set_cons_succ]
      refine wpAnyH_done (by kernel_rfl) ?_ _
      go_wp2_with (fail)
      go_ret
      exact ⟨rfl, bel2 (bel2 (bel2 (bel2 HBW.out HB5.out) HB6.out) HB7.out) HB8.out⟩

set_option maxRecDepth 100000 in
theorem lifted (os : Os) (started : os.Started) (H : Type) (enc : TypeId × Value → H) :
    ReturnsInHanded {} Try.checked os 8 .any (Rows.modelCutsSpec.pre6 enc Try.prog Try.f8 Rows.modelCutsRow.domain false) (Rows.modelCutsSpec.post enc Try.prog Try.f8 false true false false) := by
  refine returnsInHanded_of_change (C := Try.checked) own started (by kernel_rfl) Try.func8
    (ChangeSpec.witness6 (enc := enc) (C := Try.checked) false ⟨#[], #[.slice none 0 0, .agg #[.int .i64 0, .int .i64 0]], []⟩ 8 (by kernel_rfl) (by kernel_rfl) (by kernel_rfl) (by kernel_rfl)) ?_
  intro W base args ds gs before hval0 hW hcnd _
  have hval : ∀ (j : Nat) t v, Try.f8.params[j]? = some t → args[j]? = some v → Value.okWide Try.prog W .any base t v := hval0
  have hW' := hW
  obtain ⟨p, q, hA0, hV, rfl, hfz, hnd⟩ := hW
  have hA : DataW.TrodAll enc Try.prog W 0 (fun _ => true) true Try.f8.params.toList args.toList ds p := hA0
  rw [Try.params8] at hA hval
  obtain ⟨v0, vs0, d0, ds0, p0, q0, hargs, rfl, rfl, h0, r0⟩ := trodAll_cons hA
  obtain ⟨v1, vs1, d1, ds1, p1, q1, rfl, rfl, rfl, h1, r1⟩ := trodAll_cons r0
  obtain ⟨rfl, rfl, rfl⟩ := trodAll_nil r1
  obtain rfl : args = #[v0, v1] := by cases args; simp_all
  obtain ⟨rfl, rfl⟩ := trodVars_none hV
  have k0 := h0
  have lt0 : ∀ x ∈ p0, x.block < W.heap.size := by obtain ⟨m, hm⟩ := k0; exact DataW.trod_lt m _ _ _ hm
  obtain ⟨b0, l0, c0, rfl⟩ := okWide_slice Try.underlying22 (hval 0 22 v0 rfl rfl)
  obtain ⟨a0, cap0, z0, e0, w0⟩ := open_pairs (enc := enc) (w := W) (v := .slice b0 l0 c0) (fuel := h0.choose) (by simpa [Value.cells] using h0.choose_spec)
  rw [e0] at hval k0 h0 hW' hval0 hA0
  have k1 := h1
  have lt1 : ∀ x ∈ p1, x.block < W.heap.size := by obtain ⟨m, hm⟩ := k1; exact DataW.trod_lt m _ _ _ hm
  obtain ⟨u1, rfl, _⟩ := okWide_struct Try.underlying28 (hval 1 28 v1 rfl rfl)
  obtain ⟨k1_, v1_, e1, w1⟩ := fields_pairw (enc := enc) (w := W) (cs := u1.toList) (fuel := h1.choose) (by simpa [Value.cells] using h1.choose_spec)
  obtain rfl : u1 = #[.int .i64 k1_, .int .i64 v1_] := by cases u1; simp_all
  clear hA0 hval0
  rw [e0]; refine (walk a0 cap0 z0 k1_ v1_ W w0 w1).mono fun e W' ⟨he, bel⟩ => ?_
  subst he
  exact ⟨_, rfl, _, _, _, [], _, [], hW', trodAll_mk1 (shut_bool Try.underlying4 _), (trodAll_cons_mk (Below.trod laidOut (by kernel_rfl) (of_decide_eq_true (by kernel_rfl)) k0 bel lt0) (trodAll_cons_mk (Below.trod laidOut (by kernel_rfl) (of_decide_eq_true (by kernel_rfl)) k1 bel lt1) trodAll_mk0)), rfl, bel.frame _, fun h => by cases h⟩

theorem over : Rows.modelCutsRow.holds Try.pinned (OpenSpec.ofChange Rows.modelCutsSpec) :=
  OpenClaim.holds_of_wide 8 Try.f8 rfl rfl rfl rfl rfl rfl rfl ⟨rfl, rfl, rfl, rfl, rfl⟩ rfl rfl rfl rfl rfl (by kernel_rfl) Try.func8 (by kernel_rfl)
    (of_decide_eq_true (by kernel_rfl)) (by unfold Func.isWrapper; first | (rw [if_pos (by decide +kernel)]; kernel_rfl) | (rw [if_neg (by decide +kernel)]; exact ⟨rfl, rfl⟩))
    (fun os started H enc _ => lifted os started H enc)

theorem modelCutsHolds : Rows.ModelCutsSaid := over
#print axioms modelCutsHolds
end Go.Proofs.Ytooengicfjcchaa.modelCuts
