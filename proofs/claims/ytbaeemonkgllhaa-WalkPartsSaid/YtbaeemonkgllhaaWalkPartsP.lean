/- 'osierlaw9.WalkParts' returns true for every argument. No condition. -/
import Derived.Test.YtbaeemonkgllhaaRows
import Derived.Test.YtbaeemonkgllhaaWaAwk
import Derived.Test.YtbaeemonkgllhaaPtA
import Derived.Test.YtbaeemonkgllhaaNForm
import Derived.LoopTactic
import Derived.WalkKit
import Derived.ProofKit
import Derived.OpenShut
import Derived.ChangeOld
import Derived.Below
namespace Go.Proofs.Ytbaeemonkgllhaa.walkParts
open Go.ChangeShapes Go.WideShapes Go.ChangeAt Go.RowKit
set_option linter.all false

theorem own : ownKnob Try.prog.godebug = none := by kernel_rfl
theorem laidOut : laidOutB Try.prog = true := by kernel_rfl

theorem src_row {w : World} {S : Nat → Prop} {a : Option Addr} {n cap : Nat} {l : List Pr} (h : PRow w S (.slice a n cap) l) (hn : n = l.length) : Source w (.slice a n cap) l.length (cellsP l) := by
  rcases h.row.2 with ⟨e, e0⟩ | ⟨g, cap', cur, e, _⟩
  · cases e
    obtain rfl : l = [] := List.length_eq_zero_iff.1 e0
    exact .inl ⟨rfl, rfl, rfl⟩
  · simp only [Value.slice.injEq] at e
    obtain ⟨rfl, _, rfl⟩ := e
    exact src_prs (h.prs hn) hn
theorem rngL_two {l : List Pr} (hs : Srt l) {lo mid hi : Int} (h1 : lo ≤ mid) (h2 : mid ≤ hi) : rngL l lo (mid - 1) ++ rngL l mid hi = rngL l lo hi := by
  induction l with
  | nil => rfl
  | cons q l ih =>
    have hq : ∀ z ∈ l, q.1 < z.1 := by unfold Srt at hs; exact (List.pairwise_cons.1 hs).1
    have hs' : Srt l := by unfold Srt at hs ⊢; exact (List.pairwise_cons.1 hs).2
    by_cases a : lo ≤ q.1
    · by_cases b : q.1 ≤ hi
      · rw [rngL_in (q := q) (lo := lo) (hi := hi) a b]
        by_cases d : q.1 < mid
        · rw [rngL_in (q := q) (lo := lo) (hi := mid - 1) a (by omega), rngL_out (q := q) (lo := mid) (hi := hi) (by omega), List.cons_append, ih hs']
        · have e0 : rngL l lo (mid - 1) = [] := rngL_none (fun z hz => by have := hq z hz; omega)
          rw [rngL_out (q := q) (lo := lo) (hi := mid - 1) (by omega), rngL_in (q := q) (lo := mid) (hi := hi) (by omega) b, ← ih hs', e0, List.nil_append, List.nil_append]
      · rw [rngL_out (q := q) (lo := lo) (hi := hi) (by omega), rngL_out (q := q) (lo := lo) (hi := mid - 1) (by omega), rngL_out (q := q) (lo := mid) (hi := hi) (by omega), ih hs']
    · rw [rngL_out (q := q) (lo := lo) (hi := hi) (by omega), rngL_out (q := q) (lo := lo) (hi := mid - 1) (by omega), rngL_out (q := q) (lo := mid) (hi := hi) (by omega), ih hs']

set_option maxRecDepth 100000 in
set_option maxHeartbeats 12800000 in
theorem walk (a0 : Option Addr) (cap0 : Nat) (z0 : List Pr) (a1 : Int) (a2 : Int) (a3 : Int) (w : World) (w0 : Prs w a0 cap0 z0) (r0 : Rng z0) (w1 : (Lit.int .i64 a1).wf = true) (w2 : (Lit.int .i64 a2).wf = true) (w3 : (Lit.int .i64 a3).wf = true) :
    Calls Try.prog 5 #[.slice a0 z0.length cap0, .int .i64 a1, .int .i64 a2, .int .i64 a3] w fun e w' => e = .returned (.bool true) ∧ Below w.heap.size w w' := by
  have cp : Calls Try.prog 8 #[.slice a0 z0.length cap0, .int .i64 50] w (PairsIs w 50) := pairs_srt a0 cap0 z0 50 w w0 r0 (by omega)
  have hc0 := w0.1
  have hc1 := w0.2.1
  have hb2 := wf_range w2
  clear w0 r0
  unfold maxLen at hc1
  go_enter Try.func5, Try.ntmps5
  go_wp2_with (fail)
  refine cp.mono ?_
  clear cp
  rintro e W2 ⟨ao, c, l, rfl, hl, hs, hr, hP, hbw⟩
  have hP1 := hP.1
  have hP2 := hP.2.1
  have HBW := Lib.hid hbw
  have HP := Lib.hid hP
  have HS := Lib.hid hs
  have hl1000 : l.length ≤ 1000 := by omega
  have HAL := Lib.hid (rngL_all (l := l) (lo := -9223372036854775808) (hi := 9223372036854775807) (fun z hz => wf_range (hr z hz).1))
  have HL5 := Lib.hid hl
  clear hP hs hr hbw
  unfold maxLen at hP2
  by_cases hm : a2 = -9223372036854775808
  · have hm' : (a2 == -9223372036854775808) = true := by simpa using hm
    clear hm hb2
    go_wp2_with (first
        | (go_at_call 9; ((with_reducible refine (new_held 100 100 W2 _ (Below.refl _ _) (by decide)).mono ?_); rintro e W3 ⟨p, rfl, h1'⟩))
        | (go_at_call 10; ((with_reducible refine (laid_any W2 p _ _ _ ao c l _ [] (Nat.le_refl _) HP.out h1' Good.nil (by simp; omega) (by omega)).mono ?_); rintro e W4 ⟨t, L, rfl, h4, n4, t4, g4⟩; rw [List.nil_append] at h4 t4; have T4 := Lib.hid t4; clear t4 g4 h1' n4))
        | (go_at_call 18; ((with_reducible refine (wawake_any _).mono ?_); rintro e W20 ⟨rfl, hb20⟩; have h20 := h4.below hb20)))
    go_ret
    exact ⟨rfl, HBW.out.trans (h20.b.mono HBW.out.size)⟩
  · have hm' : (a2 == -9223372036854775808) = false := by simpa using hm
    have hw : wrap64 (a2 - 1) = a2 - 1 := by unfold wrap64; omega
    clear hm hb2
    by_cases h1 : a1 ≤ a2
    · by_cases h2 : a2 ≤ a3
      · skip
        have d1 : decide (a1 ≤ a2) = true := decide_eq_true h1
        have d2 : decide (a2 ≤ a3) = true := decide_eq_true h2
        obtain ⟨X, hX⟩ : ∃ X, rngL l a1 (a2 - 1) = X := ⟨_, rfl⟩
        obtain ⟨Y, hY⟩ : ∃ Y, rngL l a2 a3 = Y := ⟨_, rfl⟩
        obtain ⟨Z, hZ⟩ : ∃ Z, rngL l a1 a3 = Z := ⟨_, rfl⟩
        have hXY : X ++ Y = Z := by rw [← hX, ← hY, ← hZ]; exact rngL_two HS.out h1 h2
        have hZl : Z.length ≤ 50 := by rw [← hZ]; exact Nat.le_trans (rngL_len l a1 a3) hl
        have hXYl : X.length + Y.length = Z.length := by rw [← hXY, List.length_append]
        obtain ⟨nx, hnx⟩ : ∃ n : Int, (X.length : Int) = n := ⟨_, rfl⟩
        obtain ⟨ny, hny⟩ : ∃ n : Int, (Y.length : Int) = n := ⟨_, rfl⟩
        have hsum : wrap64 (nx + ny) = (Z.length : Int) := by unfold wrap64; omega
        have HX := Lib.hid hX
        have HY := Lib.hid hY
        have HZ := Lib.hid hZ
        have HXY := Lib.hid hXY
        have HNX := Lib.hid hnx
        have HNY := Lib.hid hny
        have HLL := Lib.hid (And.intro hXYl hZl)
        clear hX hY hZ hXY hnx hny h1 h2 hXYl hZl
        go_upto_region 8 with (first
            | (go_at_call 9; ((with_reducible refine (new_held 100 100 W2 _ (Below.refl _ _) (by decide)).mono ?_); rintro e W3 ⟨p, rfl, h1'⟩))
            | (go_at_call 10; ((with_reducible refine (laid_any W2 p _ _ _ ao c l _ [] (Nat.le_refl _) HP.out h1' Good.nil (by simp; omega) (by omega)).mono ?_); rintro e W4 ⟨t, L, rfl, h4, n4, t4, g4⟩; rw [List.nil_append] at h4 t4; have T4 := Lib.hid t4; clear t4 g4 h1' n4))
            | (go_at_call 15; have cc := wrange h4 T4.out HS.out hl1000 a1 (a2 - 1) X X.length HX.out rfl; ((with_reducible refine cc.mono ?_); clear cc; rintro e W5 ⟨x5, y5, rfl, m5, -, hR5, hb5⟩; have h5 := h4.below hb5; have R5 := Lib.hid hR5; clear h4 hb5 hR5))
            | (go_at_call 15; have cc := wrange h5 T4.out HS.out hl1000 a2 a3 Y Y.length HY.out rfl; ((with_reducible refine cc.mono ?_); clear cc; rintro e W6 ⟨x6, y6, rfl, m6, -, hR6, hb6⟩; have h6 := h5.below hb6; have R6 := Lib.hid hR6; have S6 := Lib.hid (R5.out.below hb6); clear h5 hb6 hR6 R5))
            | (go_at_call 15; have cc := wrange h6 T4.out HS.out hl1000 a1 a3 Z Z.length HZ.out rfl; ((with_reducible refine cc.mono ?_); clear cc; rintro e W7 ⟨x7, y7, rfl, m7, -, hR7, hb7⟩; have h7 := h6.below hb7; have R7 := Lib.hid hR7; have S7 := Lib.hid (R6.out.below hb7); have U7 := Lib.hid (S6.out.below hb7); clear h6 hb7 hR7 R6 S6)))
        have BA := Lib.hid ((Below.refl W7.heap.size W7).alloc (Nat.le_refl _) (.cells #[] 30))
        have RA := Lib.hid (PRow.lit W7)
        have HS7 := Lib.hid (fun (W : World) (h : W7.heap.size ≤ W.heap.size) (j : Nat) (hj : j < W7.heap.size) => Nat.lt_of_lt_of_le hj h)
        go_upto_region 10 with (first
            | (at_builtin; refine wpList_app rfl (.tmp 59) (.tmp 60) rfl (fun j => j < W7.heap.size) (.slice (some ⟨W7.heap.size, 0, none⟩) 0 0) [] X rfl RA.out (HS7.out _ BA.out.size) (.slice x5 X.length y5) rfl (src_row (U7.out.below BA.out) rfl) (by have := HLL.out; simp; omega) X.length (by simp) X (List.nil_append _) ?_; intro a8 c8 w8 hm8 hc8 hR8 hO8; have R8 := Lib.hid hR8; have B8 := Lib.hid (only_lt BA.out hO8); clear hR8 hO8; unfold maxLen at hm8)
            | (at_builtin; refine wpList_app rfl (.tmp 61) (.tmp 62) rfl (fun j => j < W7.heap.size) (.slice a8 X.length c8) X Y rfl R8.out (HS7.out _ B8.out.size) (.slice x6 Y.length y6) rfl (src_row (S7.out.below B8.out) rfl) (by have := HLL.out; omega) Z.length HLL.out.1 Z HXY.out ?_; intro a9 c9 w9 hm9 hc9 hR9 hO9; have R9 := Lib.hid hR9; have B9 := Lib.hid (only_lt B8.out hO9); clear hR9 hO9; unfold maxLen at hm9)
            | (go_at_call 13; have cc := same_any a9 x7 c9 y7 _ _ Z _ (R9.out.prs rfl) ((R7.out.prs rfl).below B9.out) rfl rfl; ((with_reducible refine cc.mono ?_); clear cc; rintro e W10 ⟨rfl, hb10⟩; have h10 := h7.below (B9.out.trans (hb10.mono B9.out.size)); clear h7 hb10))
            | (go_at_call 16; have cc := wcount h10 T4.out HS.out hl1000 a1 (a2 - 1) nx (by rw [HX.out]; exact HNX.out); ((with_reducible refine cc.mono ?_); clear cc; rintro e W15 ⟨rfl, hb15⟩; have h15 := h10.below hb15; clear h10 hb15))
            | (go_at_call 16; have cc := wcount h15 T4.out HS.out hl1000 a2 a3 ny (by rw [HY.out]; exact HNY.out); ((with_reducible refine cc.mono ?_); clear cc; rintro e W16 ⟨rfl, hb16⟩; have h16 := h15.below hb16; clear h15 hb16)))
        clear R9 B9 R8 B8 R7 S7 U7 RA BA HS7
        have hT : Held W2 W16 p 100 0 L := h16
        clear h16
        by_cases h3 : a1 < a3
        · have d3 : decide (a1 < a3) = true := decide_eq_true h3
          have E3 := Lib.hid (rngL_wrong (l := l) h3)
          clear h3
          go_wp2_with (first
            | (go_at_call 15; have cc := wrange hT T4.out HS.out hl1000 a3 a1 [] 0 E3.out rfl; ((with_reducible refine cc.mono ?_); clear cc; rintro e W11 ⟨x11, y11, rfl, -, -, hR11, hb11⟩; have h11 := hT.below hb11; clear hT hb11 hR11))
            | (go_at_call 16; have cc := wcount h11 T4.out HS.out hl1000 a3 a1 0 (by rw [E3.out]; rfl); ((with_reducible refine cc.mono ?_); clear cc; rintro e W12 ⟨rfl, hb12⟩; have h12 := h11.below hb12; clear h11 hb12))
            | (go_at_call 15; have cc := wrange h12 T4.out HS.out hl1000 (-9223372036854775808) 9223372036854775807 l l.length HAL.out rfl; ((with_reducible refine cc.mono ?_); clear cc; rintro e W13 ⟨x13, y13, rfl, -, -, hR13, hb13⟩; have h13 := h12.below hb13; have R13 := Lib.hid hR13; clear h12 hb13 hR13))
            | (go_at_call 13; have cc := same_any x13 ao y13 c _ _ l _ (R13.out.prs rfl) (HP.out.below h13.b) rfl rfl; ((with_reducible refine cc.mono ?_); clear cc; rintro e W14 ⟨rfl, hb14⟩; have h14 := h13.below hb14; clear h13 hb14 R13))
            | (go_at_call 18; ((with_reducible refine (wawake_any _).mono ?_); rintro e W20 ⟨rfl, hb20⟩; have h20 := h14.below hb20)))
          go_ret
          exact ⟨rfl, HBW.out.trans (h20.b.mono HBW.out.size)⟩
        · have d3 : decide (a1 < a3) = false := decide_eq_false h3
          clear h3
          go_wp2_with (first
            | (go_at_call 15; have cc := wrange hT T4.out HS.out hl1000 (-9223372036854775808) 9223372036854775807 l l.length HAL.out rfl; ((with_reducible refine cc.mono ?_); clear cc; rintro e W13 ⟨x13, y13, rfl, -, -, hR13, hb13⟩; have h13 := hT.below hb13; have R13 := Lib.hid hR13; clear hT hb13 hR13))
            | (go_at_call 13; have cc := same_any x13 ao y13 c _ _ l _ (R13.out.prs rfl) (HP.out.below h13.b) rfl rfl; ((with_reducible refine cc.mono ?_); clear cc; rintro e W14 ⟨rfl, hb14⟩; have h14 := h13.below hb14; clear h13 hb14 R13))
            | (go_at_call 18; ((with_reducible refine (wawake_any _).mono ?_); rintro e W20 ⟨rfl, hb20⟩; have h20 := h14.below hb20)))
          go_ret
          exact ⟨rfl, HBW.out.trans (h20.b.mono HBW.out.size)⟩
      · skip
        have d1 : decide (a1 ≤ a2) = true := decide_eq_true h1
        have d2 : decide (a2 ≤ a3) = false := decide_eq_false h2
        clear h1 h2
        go_upto_region 10 with (first
            | (go_at_call 9; ((with_reducible refine (new_held 100 100 W2 _ (Below.refl _ _) (by decide)).mono ?_); rintro e W3 ⟨p, rfl, h1'⟩))
            | (go_at_call 10; ((with_reducible refine (laid_any W2 p _ _ _ ao c l _ [] (Nat.le_refl _) HP.out h1' Good.nil (by simp; omega) (by omega)).mono ?_); rintro e W4 ⟨t, L, rfl, h4, n4, t4, g4⟩; rw [List.nil_append] at h4 t4; have T4 := Lib.hid t4; clear t4 g4 h1' n4)))
        have hT : Held W2 W4 p 100 0 L := h4
        clear h4
        by_cases h3 : a1 < a3
        · have d3 : decide (a1 < a3) = true := decide_eq_true h3
          have E3 := Lib.hid (rngL_wrong (l := l) h3)
          clear h3
          go_wp2_with (first
            | (go_at_call 15; have cc := wrange hT T4.out HS.out hl1000 a3 a1 [] 0 E3.out rfl; ((with_reducible refine cc.mono ?_); clear cc; rintro e W11 ⟨x11, y11, rfl, -, -, hR11, hb11⟩; have h11 := hT.below hb11; clear hT hb11 hR11))
            | (go_at_call 16; have cc := wcount h11 T4.out HS.out hl1000 a3 a1 0 (by rw [E3.out]; rfl); ((with_reducible refine cc.mono ?_); clear cc; rintro e W12 ⟨rfl, hb12⟩; have h12 := h11.below hb12; clear h11 hb12))
            | (go_at_call 15; have cc := wrange h12 T4.out HS.out hl1000 (-9223372036854775808) 9223372036854775807 l l.length HAL.out rfl; ((with_reducible refine cc.mono ?_); clear cc; rintro e W13 ⟨x13, y13, rfl, -, -, hR13, hb13⟩; have h13 := h12.below hb13; have R13 := Lib.hid hR13; clear h12 hb13 hR13))
            | (go_at_call 13; have cc := same_any x13 ao y13 c _ _ l _ (R13.out.prs rfl) (HP.out.below h13.b) rfl rfl; ((with_reducible refine cc.mono ?_); clear cc; rintro e W14 ⟨rfl, hb14⟩; have h14 := h13.below hb14; clear h13 hb14 R13))
            | (go_at_call 18; ((with_reducible refine (wawake_any _).mono ?_); rintro e W20 ⟨rfl, hb20⟩; have h20 := h14.below hb20)))
          go_ret
          exact ⟨rfl, HBW.out.trans (h20.b.mono HBW.out.size)⟩
        · have d3 : decide (a1 < a3) = false := decide_eq_false h3
          clear h3
          go_wp2_with (first
            | (go_at_call 15; have cc := wrange hT T4.out HS.out hl1000 (-9223372036854775808) 9223372036854775807 l l.length HAL.out rfl; ((with_reducible refine cc.mono ?_); clear cc; rintro e W13 ⟨x13, y13, rfl, -, -, hR13, hb13⟩; have h13 := hT.below hb13; have R13 := Lib.hid hR13; clear hT hb13 hR13))
            | (go_at_call 13; have cc := same_any x13 ao y13 c _ _ l _ (R13.out.prs rfl) (HP.out.below h13.b) rfl rfl; ((with_reducible refine cc.mono ?_); clear cc; rintro e W14 ⟨rfl, hb14⟩; have h14 := h13.below hb14; clear h13 hb14 R13))
            | (go_at_call 18; ((with_reducible refine (wawake_any _).mono ?_); rintro e W20 ⟨rfl, hb20⟩; have h20 := h14.below hb20)))
          go_ret
          exact ⟨rfl, HBW.out.trans (h20.b.mono HBW.out.size)⟩
    · skip
      have d1 : decide (a1 ≤ a2) = false := decide_eq_false h1
      clear h1
      go_upto_region 10 with (first
          | (go_at_call 9; ((with_reducible refine (new_held 100 100 W2 _ (Below.refl _ _) (by decide)).mono ?_); rintro e W3 ⟨p, rfl, h1'⟩))
          | (go_at_call 10; ((with_reducible refine (laid_any W2 p _ _ _ ao c l _ [] (Nat.le_refl _) HP.out h1' Good.nil (by simp; omega) (by omega)).mono ?_); rintro e W4 ⟨t, L, rfl, h4, n4, t4, g4⟩; rw [List.nil_append] at h4 t4; have T4 := Lib.hid t4; clear t4 g4 h1' n4)))
      have hT : Held W2 W4 p 100 0 L := h4
      clear h4
      by_cases h3 : a1 < a3
      · have d3 : decide (a1 < a3) = true := decide_eq_true h3
        have E3 := Lib.hid (rngL_wrong (l := l) h3)
        clear h3
        go_wp2_with (first
          | (go_at_call 15; have cc := wrange hT T4.out HS.out hl1000 a3 a1 [] 0 E3.out rfl; ((with_reducible refine cc.mono ?_); clear cc; rintro e W11 ⟨x11, y11, rfl, -, -, hR11, hb11⟩; have h11 := hT.below hb11; clear hT hb11 hR11))
          | (go_at_call 16; have cc := wcount h11 T4.out HS.out hl1000 a3 a1 0 (by rw [E3.out]; rfl); ((with_reducible refine cc.mono ?_); clear cc; rintro e W12 ⟨rfl, hb12⟩; have h12 := h11.below hb12; clear h11 hb12))
          | (go_at_call 15; have cc := wrange h12 T4.out HS.out hl1000 (-9223372036854775808) 9223372036854775807 l l.length HAL.out rfl; ((with_reducible refine cc.mono ?_); clear cc; rintro e W13 ⟨x13, y13, rfl, -, -, hR13, hb13⟩; have h13 := h12.below hb13; have R13 := Lib.hid hR13; clear h12 hb13 hR13))
          | (go_at_call 13; have cc := same_any x13 ao y13 c _ _ l _ (R13.out.prs rfl) (HP.out.below h13.b) rfl rfl; ((with_reducible refine cc.mono ?_); clear cc; rintro e W14 ⟨rfl, hb14⟩; have h14 := h13.below hb14; clear h13 hb14 R13))
          | (go_at_call 18; ((with_reducible refine (wawake_any _).mono ?_); rintro e W20 ⟨rfl, hb20⟩; have h20 := h14.below hb20)))
        go_ret
        exact ⟨rfl, HBW.out.trans (h20.b.mono HBW.out.size)⟩
      · have d3 : decide (a1 < a3) = false := decide_eq_false h3
        clear h3
        go_wp2_with (first
          | (go_at_call 15; have cc := wrange hT T4.out HS.out hl1000 (-9223372036854775808) 9223372036854775807 l l.length HAL.out rfl; ((with_reducible refine cc.mono ?_); clear cc; rintro e W13 ⟨x13, y13, rfl, -, -, hR13, hb13⟩; have h13 := hT.below hb13; have R13 := Lib.hid hR13; clear hT hb13 hR13))
          | (go_at_call 13; have cc := same_any x13 ao y13 c _ _ l _ (R13.out.prs rfl) (HP.out.below h13.b) rfl rfl; ((with_reducible refine cc.mono ?_); clear cc; rintro e W14 ⟨rfl, hb14⟩; have h14 := h13.below hb14; clear h13 hb14 R13))
          | (go_at_call 18; ((with_reducible refine (wawake_any _).mono ?_); rintro e W20 ⟨rfl, hb20⟩; have h20 := h14.below hb20)))
        go_ret
        exact ⟨rfl, HBW.out.trans (h20.b.mono HBW.out.size)⟩

set_option maxRecDepth 100000 in
theorem lifted (os : Os) (started : os.Started) (H : Type) (enc : TypeId × Value → H) :
    ReturnsInHanded {} Try.checked os 5 .any (Rows.walkPartsSpec.pre6 enc Try.prog Try.f5 Rows.walkPartsRow.domain false) (Rows.walkPartsSpec.post enc Try.prog Try.f5 false true false false) := by
  refine returnsInHanded_of_change (C := Try.checked) own started (by kernel_rfl) Try.func5
    (ChangeSpec.witness6 (enc := enc) (C := Try.checked) false ⟨#[], #[.slice none 0 0, .int .i64 0, .int .i64 0, .int .i64 0], []⟩ 8 (by kernel_rfl) (by kernel_rfl) (by kernel_rfl) (by kernel_rfl)) ?_
  intro W base args ds gs before hval0 hW hcnd _
  have hval : ∀ (j : Nat) t v, Try.f5.params[j]? = some t → args[j]? = some v → Value.okWide Try.prog W .any base t v := hval0
  have hW' := hW
  obtain ⟨p, q, hA0, hV, rfl, hfz, hnd⟩ := hW
  have hA : DataW.TrodAll enc Try.prog W 0 (fun _ => true) true Try.f5.params.toList args.toList ds p := hA0
  rw [Try.params5] at hA hval
  obtain ⟨v0, vs0, d0, ds0, p0, q0, hargs, rfl, rfl, h0, r0⟩ := trodAll_cons hA
  obtain ⟨v1, vs1, d1, ds1, p1, q1, rfl, rfl, rfl, h1, r1⟩ := trodAll_cons r0
  obtain ⟨v2, vs2, d2, ds2, p2, q2, rfl, rfl, rfl, h2, r2⟩ := trodAll_cons r1
  obtain ⟨v3, vs3, d3, ds3, p3, q3, rfl, rfl, rfl, h3, r3⟩ := trodAll_cons r2
  obtain ⟨rfl, rfl, rfl⟩ := trodAll_nil r3
  obtain rfl : args = #[v0, v1, v2, v3] := by cases args; simp_all
  obtain ⟨rfl, rfl⟩ := trodVars_none hV
  have k0 := h0
  have lt0 : ∀ x ∈ p0, x.block < W.heap.size := by obtain ⟨m, hm⟩ := k0; exact DataW.trod_lt m _ _ _ hm
  obtain ⟨b0, l0, c0, rfl⟩ := okWide_slice Try.underlying22 (hval 0 22 v0 rfl rfl)
  obtain ⟨a0, cap0, z0, e0, w0, g0⟩ := open_pairsw (enc := enc) (w := W) (v := .slice b0 l0 c0) (fuel := h0.choose) (by simpa [Value.cells] using h0.choose_spec)
  rw [e0] at hval k0 h0 hW' hval0 hA0
  have k1 := h1
  have lt1 : ∀ x ∈ p1, x.block < W.heap.size := by obtain ⟨m, hm⟩ := k1; exact DataW.trod_lt m _ _ _ hm
  obtain ⟨a1, rfl, rfl, rfl, w1⟩ := open_int Try.underlying3 (hval 1 3 v1 rfl rfl) h1
  have k2 := h2
  have lt2 : ∀ x ∈ p2, x.block < W.heap.size := by obtain ⟨m, hm⟩ := k2; exact DataW.trod_lt m _ _ _ hm
  obtain ⟨a2, rfl, rfl, rfl, w2⟩ := open_int Try.underlying3 (hval 2 3 v2 rfl rfl) h2
  have k3 := h3
  have lt3 : ∀ x ∈ p3, x.block < W.heap.size := by obtain ⟨m, hm⟩ := k3; exact DataW.trod_lt m _ _ _ hm
  obtain ⟨a3, rfl, rfl, rfl, w3⟩ := open_int Try.underlying3 (hval 3 3 v3 rfl rfl) h3
  clear hA0 hval0
  rw [e0]; refine (walk a0 cap0 z0 a1 a2 a3 W w0 g0 w1 w2 w3).mono fun e W' ⟨he, bel⟩ => ?_
  subst he
  exact ⟨_, rfl, _, _, _, [], _, [], hW', trodAll_mk1 (shut_bool Try.underlying4 _), (trodAll_cons_mk (Below.trod laidOut (by kernel_rfl) (of_decide_eq_true (by kernel_rfl)) k0 bel lt0) (trodAll_cons_mk (Below.trod laidOut (by kernel_rfl) (of_decide_eq_true (by kernel_rfl)) k1 bel lt1) (trodAll_cons_mk (Below.trod laidOut (by kernel_rfl) (of_decide_eq_true (by kernel_rfl)) k2 bel lt2) (trodAll_cons_mk (Below.trod laidOut (by kernel_rfl) (of_decide_eq_true (by kernel_rfl)) k3 bel lt3) trodAll_mk0)))), rfl, bel.frame _, fun h => by cases h⟩

theorem over : Rows.walkPartsRow.holds Try.pinned (OpenSpec.ofChange Rows.walkPartsSpec) :=
  OpenClaim.holds_of_wide 5 Try.f5 rfl rfl rfl rfl rfl rfl rfl ⟨rfl, rfl, rfl, rfl, rfl⟩ rfl rfl rfl rfl rfl (by kernel_rfl) Try.func5 (by kernel_rfl)
    (of_decide_eq_true (by kernel_rfl)) (by unfold Func.isWrapper; first | (rw [if_pos (by decide +kernel)]; kernel_rfl) | (rw [if_neg (by decide +kernel)]; exact ⟨rfl, rfl⟩))
    (fun os started H enc _ => lifted os started H enc)

theorem walkPartsHolds : Rows.WalkPartsSaid := over
#print axioms walkPartsHolds
end Go.Proofs.Ytbaeemonkgllhaa.walkParts
