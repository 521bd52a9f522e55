/- LeafForms (P13.1, P13.2): on any pairs, any operation, any key and any two answers (together up to 500 pairs) leaf.Do leaves and tells what the document says, and May, MayOp, Updates, Find, Same and SameAns tell what it says. No condition. -/
import Derived.Test.YtipcjkfecppanaaRows
import Derived.Test.YtipcjkfecppanaaLrD
import Derived.Test.YtipcjkfecppanaaLfS
import Derived.Test.YtipcjkfecppanaaLfW
import Derived.Test.YtipcjkfecppanaaLfZ
import Derived.Deep.RegionHeld3
import Derived.LoopTactic
import Derived.WalkKit
import Derived.ProofKit
import Derived.OpenShut
import Derived.ChangeOld
import Derived.Below
namespace Go.Proofs.Ytipcjkfecppanaa.leafForms
open Go.ChangeShapes Go.WideShapes Go.ChangeAt Go.RowKit
set_option linter.all false

theorem own : ownKnob Try.prog.godebug = none := by kernel_rfl
theorem laidOut : laidOutB Try.prog = true := by kernel_rfl

theorem len4 {a b c d : Nat} (h : ¬ (500 : Int) < (a : Int) + (b : Int) + (c : Int) + (d : Int)) : a ≤ 900 ∧ b ≤ 900 := by omega
theorem sum4 {a b c d : Nat} (ha : a ≤ 8796093022208) (hb : b ≤ 8796093022208) (hc : c ≤ 8796093022208) (hd : d ≤ 8796093022208) : wrap64 ((a : Int) + (b : Int)) = (a : Int) + (b : Int) ∧ wrap64 ((a : Int) + (b : Int) + (c : Int)) = (a : Int) + (b : Int) + (c : Int) ∧ wrap64 ((a : Int) + (b : Int) + (c : Int) + (d : Int)) = (a : Int) + (b : Int) + (c : Int) + (d : Int) := by unfold wrap64; omega
theorem row_prs2 {W : World} {S : Nat → Prop} {a : Option Addr} {cap : Nat} {l : List Pr} (h : PRow W S (.slice a l.length cap) l) : Prs W a cap l := h.prs rfl
theorem fs_keep {w3 W W' : World} {b0 b1 b2 b3 b4 : Nat} {b0v0 b0v1 b0v2 b0v3 b1v0 b1v1 b1v2 b1v3 b1v4 b1v5 b2v0 b2v1 b2v2 b2v3 b2v4 b2v5 b3v0 b3v1 b3v2 b3v3 b3v4 b3v5 b4v0 b4v1 b4v2 b4v3 b4v4 b4v5 : Value} (h : W.cell? ⟨b0, 0, none⟩ = some b0v0 ∧ W.cell? ⟨b0, 1, none⟩ = some b0v1 ∧ W.cell? ⟨b0, 2, none⟩ = some b0v2 ∧ W.cell? ⟨b0, 3, none⟩ = some b0v3 ∧ W.cell? ⟨b1, 0, none⟩ = some b1v0 ∧ W.cell? ⟨b1, 1, none⟩ = some b1v1 ∧ W.cell? ⟨b1, 2, none⟩ = some b1v2 ∧ W.cell? ⟨b1, 3, none⟩ = some b1v3 ∧ W.cell? ⟨b1, 4, none⟩ = some b1v4 ∧ W.cell? ⟨b1, 5, none⟩ = some b1v5 ∧ W.cell? ⟨b2, 0, none⟩ = some b2v0 ∧ W.cell? ⟨b2, 1, none⟩ = some b2v1 ∧ W.cell? ⟨b2, 2, none⟩ = some b2v2 ∧ W.cell? ⟨b2, 3, none⟩ = some b2v3 ∧ W.cell? ⟨b2, 4, none⟩ = some b2v4 ∧ W.cell? ⟨b2, 5, none⟩ = some b2v5 ∧ W.cell? ⟨b3, 0, none⟩ = some b3v0 ∧ W.cell? ⟨b3, 1, none⟩ = some b3v1 ∧ W.cell? ⟨b3, 2, none⟩ = some b3v2 ∧ W.cell? ⟨b3, 3, none⟩ = some b3v3 ∧ W.cell? ⟨b3, 4, none⟩ = some b3v4 ∧ W.cell? ⟨b3, 5, none⟩ = some b3v5 ∧ W.cell? ⟨b4, 0, none⟩ = some b4v0 ∧ W.cell? ⟨b4, 1, none⟩ = some b4v1 ∧ W.cell? ⟨b4, 2, none⟩ = some b4v2 ∧ W.cell? ⟨b4, 3, none⟩ = some b4v3 ∧ W.cell? ⟨b4, 4, none⟩ = some b4v4 ∧ W.cell? ⟨b4, 5, none⟩ = some b4v5 ∧ Below w3.heap.size w3 W) (hb : Below W.heap.size W W') :
    W'.cell? ⟨b0, 0, none⟩ = some b0v0 ∧ W'.cell? ⟨b0, 1, none⟩ = some b0v1 ∧ W'.cell? ⟨b0, 2, none⟩ = some b0v2 ∧ W'.cell? ⟨b0, 3, none⟩ = some b0v3 ∧ W'.cell? ⟨b1, 0, none⟩ = some b1v0 ∧ W'.cell? ⟨b1, 1, none⟩ = some b1v1 ∧ W'.cell? ⟨b1, 2, none⟩ = some b1v2 ∧ W'.cell? ⟨b1, 3, none⟩ = some b1v3 ∧ W'.cell? ⟨b1, 4, none⟩ = some b1v4 ∧ W'.cell? ⟨b1, 5, none⟩ = some b1v5 ∧ W'.cell? ⟨b2, 0, none⟩ = some b2v0 ∧ W'.cell? ⟨b2, 1, none⟩ = some b2v1 ∧ W'.cell? ⟨b2, 2, none⟩ = some b2v2 ∧ W'.cell? ⟨b2, 3, none⟩ = some b2v3 ∧ W'.cell? ⟨b2, 4, none⟩ = some b2v4 ∧ W'.cell? ⟨b2, 5, none⟩ = some b2v5 ∧ W'.cell? ⟨b3, 0, none⟩ = some b3v0 ∧ W'.cell? ⟨b3, 1, none⟩ = some b3v1 ∧ W'.cell? ⟨b3, 2, none⟩ = some b3v2 ∧ W'.cell? ⟨b3, 3, none⟩ = some b3v3 ∧ W'.cell? ⟨b3, 4, none⟩ = some b3v4 ∧ W'.cell? ⟨b3, 5, none⟩ = some b3v5 ∧ W'.cell? ⟨b4, 0, none⟩ = some b4v0 ∧ W'.cell? ⟨b4, 1, none⟩ = some b4v1 ∧ W'.cell? ⟨b4, 2, none⟩ = some b4v2 ∧ W'.cell? ⟨b4, 3, none⟩ = some b4v3 ∧ W'.cell? ⟨b4, 4, none⟩ = some b4v4 ∧ W'.cell? ⟨b4, 5, none⟩ = some b4v5 ∧ Below w3.heap.size w3 W' := by
  obtain ⟨h0, h1, h2, h3, h4, h5, h6, h7, h8, h9, h10, h11, h12, h13, h14, h15, h16, h17, h18, h19, h20, h21, h22, h23, h24, h25, h26, h27, hB⟩ := h
  exact ⟨cell_keep h0 hb, cell_keep h1 hb, cell_keep h2 hb, cell_keep h3 hb, cell_keep h4 hb, cell_keep h5 hb, cell_keep h6 hb, cell_keep h7 hb, cell_keep h8 hb, cell_keep h9 hb, cell_keep h10 hb, cell_keep h11 hb, cell_keep h12 hb, cell_keep h13 hb, cell_keep h14 hb, cell_keep h15 hb, cell_keep h16 hb, cell_keep h17 hb, cell_keep h18 hb, cell_keep h19 hb, cell_keep h20 hb, cell_keep h21 hb, cell_keep h22 hb, cell_keep h23 hb, cell_keep h24 hb, cell_keep h25 hb, cell_keep h26 hb, cell_keep h27 hb, hB.trans (hb.mono hB.size)⟩
theorem fs_of {w3 : World} {b0 b1 b2 b3 b4 : Nat} {b0v0 b0v1 b0v2 b0v3 b1v0 b1v1 b1v2 b1v3 b1v4 b1v5 b2v0 b2v1 b2v2 b2v3 b2v4 b2v5 b3v0 b3v1 b3v2 b3v3 b3v4 b3v5 b4v0 b4v1 b4v2 b4v3 b4v4 b4v5 : Value} (h0 : Blk w3 b0 [b0v0, b0v1, b0v2, b0v3]) (h1 : Blk w3 b1 [b1v0, b1v1, b1v2, b1v3, b1v4, b1v5]) (h2 : Blk w3 b2 [b2v0, b2v1, b2v2, b2v3, b2v4, b2v5]) (h3 : Blk w3 b3 [b3v0, b3v1, b3v2, b3v3, b3v4, b3v5]) (h4 : Blk w3 b4 [b4v0, b4v1, b4v2, b4v3, b4v4, b4v5]) :
    w3.cell? ⟨b0, 0, none⟩ = some b0v0 ∧ w3.cell? ⟨b0, 1, none⟩ = some b0v1 ∧ w3.cell? ⟨b0, 2, none⟩ = some b0v2 ∧ w3.cell? ⟨b0, 3, none⟩ = some b0v3 ∧ w3.cell? ⟨b1, 0, none⟩ = some b1v0 ∧ w3.cell? ⟨b1, 1, none⟩ = some b1v1 ∧ w3.cell? ⟨b1, 2, none⟩ = some b1v2 ∧ w3.cell? ⟨b1, 3, none⟩ = some b1v3 ∧ w3.cell? ⟨b1, 4, none⟩ = some b1v4 ∧ w3.cell? ⟨b1, 5, none⟩ = some b1v5 ∧ w3.cell? ⟨b2, 0, none⟩ = some b2v0 ∧ w3.cell? ⟨b2, 1, none⟩ = some b2v1 ∧ w3.cell? ⟨b2, 2, none⟩ = some b2v2 ∧ w3.cell? ⟨b2, 3, none⟩ = some b2v3 ∧ w3.cell? ⟨b2, 4, none⟩ = some b2v4 ∧ w3.cell? ⟨b2, 5, none⟩ = some b2v5 ∧ w3.cell? ⟨b3, 0, none⟩ = some b3v0 ∧ w3.cell? ⟨b3, 1, none⟩ = some b3v1 ∧ w3.cell? ⟨b3, 2, none⟩ = some b3v2 ∧ w3.cell? ⟨b3, 3, none⟩ = some b3v3 ∧ w3.cell? ⟨b3, 4, none⟩ = some b3v4 ∧ w3.cell? ⟨b3, 5, none⟩ = some b3v5 ∧ w3.cell? ⟨b4, 0, none⟩ = some b4v0 ∧ w3.cell? ⟨b4, 1, none⟩ = some b4v1 ∧ w3.cell? ⟨b4, 2, none⟩ = some b4v2 ∧ w3.cell? ⟨b4, 3, none⟩ = some b4v3 ∧ w3.cell? ⟨b4, 4, none⟩ = some b4v4 ∧ w3.cell? ⟨b4, 5, none⟩ = some b4v5 ∧ Below w3.heap.size w3 w3 :=
  ⟨h0 0 _ rfl, h0 1 _ rfl, h0 2 _ rfl, h0 3 _ rfl, h1 0 _ rfl, h1 1 _ rfl, h1 2 _ rfl, h1 3 _ rfl, h1 4 _ rfl, h1 5 _ rfl, h2 0 _ rfl, h2 1 _ rfl, h2 2 _ rfl, h2 3 _ rfl, h2 4 _ rfl, h2 5 _ rfl, h3 0 _ rfl, h3 1 _ rfl, h3 2 _ rfl, h3 3 _ rfl, h3 4 _ rfl, h3 5 _ rfl, h4 0 _ rfl, h4 1 _ rfl, h4 2 _ rfl, h4 3 _ rfl, h4 4 _ rfl, h4 5 _ rfl, Below.refl _ _⟩
theorem fs_b {w3 W : World} {b0 b1 b2 b3 b4 : Nat} {b0v0 b0v1 b0v2 b0v3 b1v0 b1v1 b1v2 b1v3 b1v4 b1v5 b2v0 b2v1 b2v2 b2v3 b2v4 b2v5 b3v0 b3v1 b3v2 b3v3 b3v4 b3v5 b4v0 b4v1 b4v2 b4v3 b4v4 b4v5 : Value} (h : W.cell? ⟨b0, 0, none⟩ = some b0v0 ∧ W.cell? ⟨b0, 1, none⟩ = some b0v1 ∧ W.cell? ⟨b0, 2, none⟩ = some b0v2 ∧ W.cell? ⟨b0, 3, none⟩ = some b0v3 ∧ W.cell? ⟨b1, 0, none⟩ = some b1v0 ∧ W.cell? ⟨b1, 1, none⟩ = some b1v1 ∧ W.cell? ⟨b1, 2, none⟩ = some b1v2 ∧ W.cell? ⟨b1, 3, none⟩ = some b1v3 ∧ W.cell? ⟨b1, 4, none⟩ = some b1v4 ∧ W.cell? ⟨b1, 5, none⟩ = some b1v5 ∧ W.cell? ⟨b2, 0, none⟩ = some b2v0 ∧ W.cell? ⟨b2, 1, none⟩ = some b2v1 ∧ W.cell? ⟨b2, 2, none⟩ = some b2v2 ∧ W.cell? ⟨b2, 3, none⟩ = some b2v3 ∧ W.cell? ⟨b2, 4, none⟩ = some b2v4 ∧ W.cell? ⟨b2, 5, none⟩ = some b2v5 ∧ W.cell? ⟨b3, 0, none⟩ = some b3v0 ∧ W.cell? ⟨b3, 1, none⟩ = some b3v1 ∧ W.cell? ⟨b3, 2, none⟩ = some b3v2 ∧ W.cell? ⟨b3, 3, none⟩ = some b3v3 ∧ W.cell? ⟨b3, 4, none⟩ = some b3v4 ∧ W.cell? ⟨b3, 5, none⟩ = some b3v5 ∧ W.cell? ⟨b4, 0, none⟩ = some b4v0 ∧ W.cell? ⟨b4, 1, none⟩ = some b4v1 ∧ W.cell? ⟨b4, 2, none⟩ = some b4v2 ∧ W.cell? ⟨b4, 3, none⟩ = some b4v3 ∧ W.cell? ⟨b4, 4, none⟩ = some b4v4 ∧ W.cell? ⟨b4, 5, none⟩ = some b4v5 ∧ Below w3.heap.size w3 W) : Below w3.heap.size w3 W := by
  obtain ⟨h0, h1, h2, h3, h4, h5, h6, h7, h8, h9, h10, h11, h12, h13, h14, h15, h16, h17, h18, h19, h20, h21, h22, h23, h24, h25, h26, h27, hB⟩ := h
  exact hB
attribute [local go_sem] undef

set_option maxRecDepth 100000 in
set_option maxHeartbeats 25600000 in
theorem walk (a0 : Option Addr) (cap0 : Nat) (z0 : List Pr) (a1 : Option Addr) (cap1 : Nat) (z1 : List Pr) (o2 : OpD) (a3 : Int) (d4 : Ad) (a4 : Option Addr) (cap4 : Nat) (d5 : Ad) (a5 : Option Addr) (cap5 : Nat) (w : World) (w0 : Prs w a0 cap0 z0) (s0 : z0.length ≤ 8796093022208) (w1 : Prs w a1 cap1 z1) (s1 : z1.length ≤ 8796093022208) (w2 : o2.wf) (w3 : (Lit.int .i64 a3).wf = true) (w4 : Prs w a4 cap4 d4.ps) (s4 : d4.ps.length ≤ 8796093022208) (w5 : Prs w a5 cap5 d5.ps) (s5 : d5.ps.length ≤ 8796093022208) :
    Calls Try.prog 3 #[.slice a0 z0.length cap0, .slice a1 z1.length cap1, .agg #[.int .i64 o2.c, .int .i64 o2.k, .int .i64 o2.h, .int .i64 o2.v], .int .i64 a3, d4.val a4 cap4, d5.val a5 cap5] w fun e w' => e = .returned (.bool true) ∧ Below w.heap.size w w' := by
  obtain ⟨c, k, hi, v⟩ := o2
  obtain ⟨e4, o4, k4, v4, n4, p4⟩ := d4
  obtain ⟨e5, o5, k5, v5, n5, p5⟩ := d5
  unfold Ad.val
  dsimp only at w4 w5 s4 s5 ⊢
  have H0 := Lib.hid w0
  have H1 := Lib.hid w1
  have H4 := Lib.hid w4
  have H5 := Lib.hid w5
  have x0 := w0.1
  have x1 := w1.1
  have x4 := w4.1
  have x5 := w5.1
  have y0 := w0.2.1
  have y1 := w1.2.1
  have y4 := w4.2.1
  have y5 := w5.2.1
  unfold maxLen at y0 y1 y4 y5
  clear w0 w1 w2 w3 w4 w5
  obtain ⟨q1, q2, q3⟩ := sum4 s0 s1 s4 s5
  clear s0 s1 s4 s5
  have ca := fun W => awake_any W
  have ba := Lib.hid (bel1 (bel1 (bel1 (Below.refl _ w) (.cells #[.int .i64 c, .int .i64 k, .int .i64 hi, .int .i64 v] 24)) (.cells #[.int .i64 e4, .bool o4, .int .i64 k4, .int .i64 v4, .int .i64 n4, .slice a4 p4.length cap4] 29)) (.cells #[.int .i64 e5, .bool o5, .int .i64 k5, .int .i64 v5, .int .i64 n5, .slice a5 p5.length cap5] 29))
  by_cases hbig : (500 : Int) < (z0.length : Int) + (z1.length : Int) + (p4.length : Int) + (p5.length : Int)
  · clear x0 x1 x4 x5 y0 y1 y4 y5
    go_enter Try.func3, Try.ntmps3
    go_wp2_with (go_at_call 8; ((with_reducible refine (ca _).mono ?_); rintro e w3 ⟨rfl, hb⟩))
    go_ret
    exact ⟨rfl, bel2 ba.out hb⟩
  obtain ⟨hl0, hl1⟩ := len4 hbig
  clear x0 x1 x4 x5 y0 y1 y4 y5
  have cd := fun W h => ldo_any a0 cap0 z0 c k hi v W h (Nat.le_trans hl0 (by decide))
  have cr := fun W h => rdo_any a0 cap0 z0 c k hi v W h hl0
  generalize doP z0 c k v = L at cd cr
  generalize doA z0 c k hi = D at cd cr
  obtain ⟨De, Do, Dk, Dv, Dn, Dp⟩ := D
  unfold DoIs Ad.val at cd cr
  dsimp only at cd cr
  have cs1 := fun a cap a' cap' W h h' => samep_any a a' cap cap' L L W h h' true (decide_eq_true rfl)
  have cs2 := fun a cap a' cap' W h h' => rsame_ans ⟨De, Do, Dk, Dv, Dn, Dp⟩ ⟨De, Do, Dk, Dv, Dn, Dp⟩ a a' cap cap' W h h' true (decide_eq_true (AdEq.refl _))
  unfold Ad.val at cs2
  dsimp only at cs2
  have cm1 := fun W h => lmay_any a0 cap0 z0 W h _ rfl
  have cm2 := fun W h => rmay_any a0 cap0 z0 W h _ rfl
  generalize (decide (Srt z0)) = B1 at cm1 cm2
  have co1 := fun W => lmayop_any c k hi v W _ rfl
  have co2 := fun W => rmayop_any c k hi v W _ rfl
  generalize (decide (okOp c)) = B2 at co1 co2
  have cf1 := fun W h => lfind_any a0 cap0 z0 a3 W h
  have cf2 := fun W h => rfind_any a0 cap0 z0 a3 W h
  generalize ixL z0 a3 = ix at cf1 cf2
  have cl1 := fun W h h' => lsame_any a0 a1 cap0 cap1 z0 z1 W h h' _ rfl
  have cl2 := fun W h h' => samep_any a0 a1 cap0 cap1 z0 z1 W h h' _ rfl
  generalize (decide (z0 = z1)) = B3 at cl1 cl2
  have ct1 := fun W h h' => lsame_ans ⟨e4, o4, k4, v4, n4, p4⟩ ⟨e5, o5, k5, v5, n5, p5⟩ a4 a5 cap4 cap5 W h h' _ rfl
  have ct2 := fun W h h' => rsame_ans ⟨e4, o4, k4, v4, n4, p4⟩ ⟨e5, o5, k5, v5, n5, p5⟩ a4 a5 cap4 cap5 W h h' _ rfl
  generalize (decide (AdEq ⟨e4, o4, k4, v4, n4, p4⟩ ⟨e5, o5, k5, v5, n5, p5⟩)) = B4 at ct1 ct2
  unfold Ad.val at ct1 ct2
  dsimp only at ct1 ct2
  go_enter Try.func3, Try.ntmps3
  go_wp2_with (fail)
  refine (cd _ (H0.out.below ba.out)).mono ?_
  rintro e w1 ⟨ao, cp, aa, ca1, rfl, hR, hT, hb⟩
  clear cd
  have HR1 := Lib.hid (row_prs2 hR)
  have HT1 := Lib.hid (row_prs2 hT)
  have HB1 := Lib.hid (bel2 ba.out hb)
  have HO : Hid (Blk w1 w.heap.size [.int .i64 c, .int .i64 k, .int .i64 hi, .int .i64 v]) := Lib.hid ((((Blk.new w #[.int .i64 c, .int .i64 k, .int .i64 hi, .int .i64 v] 24).past (.cells #[.int .i64 e4, .bool o4, .int .i64 k4, .int .i64 v4, .int .i64 n4, .slice a4 p4.length cap4] 29)).past (.cells #[.int .i64 e5, .bool o5, .int .i64 k5, .int .i64 v5, .int .i64 n5, .slice a5 p5.length cap5] 29)).keep hb)
  have HA4 : Hid (Blk w1 (w.heap.size + 1) [.int .i64 e4, .bool o4, .int .i64 k4, .int .i64 v4, .int .i64 n4, .slice a4 p4.length cap4]) := Lib.hid (by
    have h := ((Blk.new (w.alloc (.cells #[.int .i64 c, .int .i64 k, .int .i64 hi, .int .i64 v] 24)) #[.int .i64 e4, .bool o4, .int .i64 k4, .int .i64 v4, .int .i64 n4, .slice a4 p4.length cap4] 29).past (.cells #[.int .i64 e5, .bool o5, .int .i64 k5, .int .i64 v5, .int .i64 n5, .slice a5 p5.length cap5] 29)).keep hb
    simpa only [World.size_alloc] using h)
  have HA5 : Hid (Blk w1 (w.heap.size + 1 + 1) [.int .i64 e5, .bool o5, .int .i64 k5, .int .i64 v5, .int .i64 n5, .slice a5 p5.length cap5]) := Lib.hid (by
    have h := (Blk.new ((w.alloc (.cells #[.int .i64 c, .int .i64 k, .int .i64 hi, .int .i64 v] 24)).alloc (.cells #[.int .i64 e4, .bool o4, .int .i64 k4, .int .i64 v4, .int .i64 n4, .slice a4 p4.length cap4] 29)) #[.int .i64 e5, .bool o5, .int .i64 k5, .int .i64 v5, .int .i64 n5, .slice a5 p5.length cap5] 29).keep hb
    simpa only [World.size_alloc] using h)
  clear hR hT hb
  have HO2 := Lib.hid (HO.out.past (.cells #[.int .i64 De, .bool Do, .int .i64 Dk, .int .i64 Dv, .int .i64 Dn, .slice aa Dp.length ca1] 29))
  have p0 := HO2.out 0 _ rfl
  have p1 := HO2.out 1 _ rfl
  have p2 := HO2.out 2 _ rfl
  have p3 := HO2.out 3 _ rfl
  go_wp2_with (fail)
  refine (cr _ (H0.out.below (bel1 HB1.out _))).mono ?_
  rintro e w2 ⟨ao2, cp2, aa2, ca2, rfl, hR, hT, hb⟩
  clear cr p0 p1 p2 p3 HO2
  have HR2 := Lib.hid (row_prs2 hR)
  have HT2 := Lib.hid (row_prs2 hT)
  have HB2 := Lib.hid (bel2 (bel1 HB1.out _) hb)
  have b12 : Below w1.heap.size w1 w2 := bel2 (bel1 (Below.refl _ _) _) hb
  replace HO := Lib.hid (HO.out.keep b12)
  replace HA4 := Lib.hid (HA4.out.keep b12)
  replace HA5 := Lib.hid (HA5.out.keep b12)
  replace HR1 := Lib.hid (HR1.out.below b12)
  replace HT1 := Lib.hid (HT1.out.below b12)
  have HY1 := Lib.hid ((Blk.new w1 #[.int .i64 De, .bool Do, .int .i64 Dk, .int .i64 Dv, .int .i64 Dn, .slice aa Dp.length ca1] 29).keep hb)
  clear hR hT hb b12
  go_wp2_with (fail)
  have HFS : Hid ((w2.alloc (.cells #[.int .i64 De, .bool Do, .int .i64 Dk, .int .i64 Dv, .int .i64 Dn, .slice aa2 Dp.length ca2] 29)).cell? ⟨w.heap.size, 0, none⟩ = some (.int .i64 c) ∧ (w2.alloc (.cells #[.int .i64 De, .bool Do, .int .i64 Dk, .int .i64 Dv, .int .i64 Dn, .slice aa2 Dp.length ca2] 29)).cell? ⟨w.heap.size, 1, none⟩ = some (.int .i64 k) ∧ (w2.alloc (.cells #[.int .i64 De, .bool Do, .int .i64 Dk, .int .i64 Dv, .int .i64 Dn, .slice aa2 Dp.length ca2] 29)).cell? ⟨w.heap.size, 2, none⟩ = some (.int .i64 hi) ∧ (w2.alloc (.cells #[.int .i64 De, .bool Do, .int .i64 Dk, .int .i64 Dv, .int .i64 Dn, .slice aa2 Dp.length ca2] 29)).cell? ⟨w.heap.size, 3, none⟩ = some (.int .i64 v) ∧ (w2.alloc (.cells #[.int .i64 De, .bool Do, .int .i64 Dk, .int .i64 Dv, .int .i64 Dn, .slice aa2 Dp.length ca2] 29)).cell? ⟨(w.heap.size + 1), 0, none⟩ = some (.int .i64 e4) ∧ (w2.alloc (.cells #[.int .i64 De, .bool Do, .int .i64 Dk, .int .i64 Dv, .int .i64 Dn, .slice aa2 Dp.length ca2] 29)).cell? ⟨(w.heap.size + 1), 1, none⟩ = some (.bool o4) ∧ (w2.alloc (.cells #[.int .i64 De, .bool Do, .int .i64 Dk, .int .i64 Dv, .int .i64 Dn, .slice aa2 Dp.length ca2] 29)).cell? ⟨(w.heap.size + 1), 2, none⟩ = some (.int .i64 k4) ∧ (w2.alloc (.cells #[.int .i64 De, .bool Do, .int .i64 Dk, .int .i64 Dv, .int .i64 Dn, .slice aa2 Dp.length ca2] 29)).cell? ⟨(w.heap.size + 1), 3, none⟩ = some (.int .i64 v4) ∧ (w2.alloc (.cells #[.int .i64 De, .bool Do, .int .i64 Dk, .int .i64 Dv, .int .i64 Dn, .slice aa2 Dp.length ca2] 29)).cell? ⟨(w.heap.size + 1), 4, none⟩ = some (.int .i64 n4) ∧ (w2.alloc (.cells #[.int .i64 De, .bool Do, .int .i64 Dk, .int .i64 Dv, .int .i64 Dn, .slice aa2 Dp.length ca2] 29)).cell? ⟨(w.heap.size + 1), 5, none⟩ = some (.slice a4 p4.length cap4) ∧ (w2.alloc (.cells #[.int .i64 De, .bool Do, .int .i64 Dk, .int .i64 Dv, .int .i64 Dn, .slice aa2 Dp.length ca2] 29)).cell? ⟨(w.heap.size + 1 + 1), 0, none⟩ = some (.int .i64 e5) ∧ (w2.alloc (.cells #[.int .i64 De, .bool Do, .int .i64 Dk, .int .i64 Dv, .int .i64 Dn, .slice aa2 Dp.length ca2] 29)).cell? ⟨(w.heap.size + 1 + 1), 1, none⟩ = some (.bool o5) ∧ (w2.alloc (.cells #[.int .i64 De, .bool Do, .int .i64 Dk, .int .i64 Dv, .int .i64 Dn, .slice aa2 Dp.length ca2] 29)).cell? ⟨(w.heap.size + 1 + 1), 2, none⟩ = some (.int .i64 k5) ∧ (w2.alloc (.cells #[.int .i64 De, .bool Do, .int .i64 Dk, .int .i64 Dv, .int .i64 Dn, .slice aa2 Dp.length ca2] 29)).cell? ⟨(w.heap.size + 1 + 1), 3, none⟩ = some (.int .i64 v5) ∧ (w2.alloc (.cells #[.int .i64 De, .bool Do, .int .i64 Dk, .int .i64 Dv, .int .i64 Dn, .slice aa2 Dp.length ca2] 29)).cell? ⟨(w.heap.size + 1 + 1), 4, none⟩ = some (.int .i64 n5) ∧ (w2.alloc (.cells #[.int .i64 De, .bool Do, .int .i64 Dk, .int .i64 Dv, .int .i64 Dn, .slice aa2 Dp.length ca2] 29)).cell? ⟨(w.heap.size + 1 + 1), 5, none⟩ = some (.slice a5 p5.length cap5) ∧ (w2.alloc (.cells #[.int .i64 De, .bool Do, .int .i64 Dk, .int .i64 Dv, .int .i64 Dn, .slice aa2 Dp.length ca2] 29)).cell? ⟨w1.heap.size, 0, none⟩ = some (.int .i64 De) ∧ (w2.alloc (.cells #[.int .i64 De, .bool Do, .int .i64 Dk, .int .i64 Dv, .int .i64 Dn, .slice aa2 Dp.length ca2] 29)).cell? ⟨w1.heap.size, 1, none⟩ = some (.bool Do) ∧ (w2.alloc (.cells #[.int .i64 De, .bool Do, .int .i64 Dk, .int .i64 Dv, .int .i64 Dn, .slice aa2 Dp.length ca2] 29)).cell? ⟨w1.heap.size, 2, none⟩ = some (.int .i64 Dk) ∧ (w2.alloc (.cells #[.int .i64 De, .bool Do, .int .i64 Dk, .int .i64 Dv, .int .i64 Dn, .slice aa2 Dp.length ca2] 29)).cell? ⟨w1.heap.size, 3, none⟩ = some (.int .i64 Dv) ∧ (w2.alloc (.cells #[.int .i64 De, .bool Do, .int .i64 Dk, .int .i64 Dv, .int .i64 Dn, .slice aa2 Dp.length ca2] 29)).cell? ⟨w1.heap.size, 4, none⟩ = some (.int .i64 Dn) ∧ (w2.alloc (.cells #[.int .i64 De, .bool Do, .int .i64 Dk, .int .i64 Dv, .int .i64 Dn, .slice aa2 Dp.length ca2] 29)).cell? ⟨w1.heap.size, 5, none⟩ = some (.slice aa Dp.length ca1) ∧ (w2.alloc (.cells #[.int .i64 De, .bool Do, .int .i64 Dk, .int .i64 Dv, .int .i64 Dn, .slice aa2 Dp.length ca2] 29)).cell? ⟨w2.heap.size, 0, none⟩ = some (.int .i64 De) ∧ (w2.alloc (.cells #[.int .i64 De, .bool Do, .int .i64 Dk, .int .i64 Dv, .int .i64 Dn, .slice aa2 Dp.length ca2] 29)).cell? ⟨w2.heap.size, 1, none⟩ = some (.bool Do) ∧ (w2.alloc (.cells #[.int .i64 De, .bool Do, .int .i64 Dk, .int .i64 Dv, .int .i64 Dn, .slice aa2 Dp.length ca2] 29)).cell? ⟨w2.heap.size, 2, none⟩ = some (.int .i64 Dk) ∧ (w2.alloc (.cells #[.int .i64 De, .bool Do, .int .i64 Dk, .int .i64 Dv, .int .i64 Dn, .slice aa2 Dp.length ca2] 29)).cell? ⟨w2.heap.size, 3, none⟩ = some (.int .i64 Dv) ∧ (w2.alloc (.cells #[.int .i64 De, .bool Do, .int .i64 Dk, .int .i64 Dv, .int .i64 Dn, .slice aa2 Dp.length ca2] 29)).cell? ⟨w2.heap.size, 4, none⟩ = some (.int .i64 Dn) ∧ (w2.alloc (.cells #[.int .i64 De, .bool Do, .int .i64 Dk, .int .i64 Dv, .int .i64 Dn, .slice aa2 Dp.length ca2] 29)).cell? ⟨w2.heap.size, 5, none⟩ = some (.slice aa2 Dp.length ca2) ∧ Below (w2.alloc (.cells #[.int .i64 De, .bool Do, .int .i64 Dk, .int .i64 Dv, .int .i64 Dn, .slice aa2 Dp.length ca2] 29)).heap.size (w2.alloc (.cells #[.int .i64 De, .bool Do, .int .i64 Dk, .int .i64 Dv, .int .i64 Dn, .slice aa2 Dp.length ca2] 29)) (w2.alloc (.cells #[.int .i64 De, .bool Do, .int .i64 Dk, .int .i64 Dv, .int .i64 Dn, .slice aa2 Dp.length ca2] 29))) :=
    Lib.hid (fs_of (HO.out.past _) (HA4.out.past _) (HA5.out.past _) (HY1.out.past _) (Blk.new w2 #[.int .i64 De, .bool Do, .int .i64 Dk, .int .i64 Dv, .int .i64 Dn, .slice aa2 Dp.length ca2] 29))
  have HB3 := Lib.hid (bel1 HB2.out (.cells #[.int .i64 De, .bool Do, .int .i64 Dk, .int .i64 Dv, .int .i64 Dn, .slice aa2 Dp.length ca2] 29))
  replace HR1 := Lib.hid (HR1.out.below (bel1 (Below.refl _ _) (.cells #[.int .i64 De, .bool Do, .int .i64 Dk, .int .i64 Dv, .int .i64 Dn, .slice aa2 Dp.length ca2] 29)))
  replace HT1 := Lib.hid (HT1.out.below (bel1 (Below.refl _ _) (.cells #[.int .i64 De, .bool Do, .int .i64 Dk, .int .i64 Dv, .int .i64 Dn, .slice aa2 Dp.length ca2] 29)))
  replace HR2 := Lib.hid (HR2.out.below (bel1 (Below.refl _ _) (.cells #[.int .i64 De, .bool Do, .int .i64 Dk, .int .i64 Dv, .int .i64 Dn, .slice aa2 Dp.length ca2] 29)))
  replace HT2 := Lib.hid (HT2.out.below (bel1 (Below.refl _ _) (.cells #[.int .i64 De, .bool Do, .int .i64 Dk, .int .i64 Dv, .int .i64 Dn, .slice aa2 Dp.length ca2] 29)))
  generalize (w2.alloc (.cells #[.int .i64 De, .bool Do, .int .i64 Dk, .int .i64 Dv, .int .i64 Dn, .slice aa2 Dp.length ca2] 29) : World) = w3 at *
  have HZ0 := Lib.hid (H0.out.below HB3.out)
  have HZ1 := Lib.hid (H1.out.below HB3.out)
  have HZ4 := Lib.hid (H4.out.below HB3.out)
  have HZ5 := Lib.hid (H5.out.below HB3.out)
  clear HO HA4 HA5 HY1 ba H0 H1 H4 H5 HB1 HB2 hbig q1 q2 q3 hl0 hl1
  obtain ⟨i0, i1, i2, i3, i4, i5, i6, i7, i8, i9, i10, i11, i12, i13, i14, i15, i16, i17, i18, i19, i20, i21, i22, i23, i24, i25, i26, i27, iB⟩ := HFS.out
  by_cases u1 : 1 ≤ c
  · by_cases u2 : c ≤ 3
    · have cu := fun W => lupd_any c k hi v W true (decide_eq_true ⟨u1, u2⟩)
      dsimp only [List.append]
      go_region_held3 (fun W => W.cell? ⟨w.heap.size, 0, none⟩ = some (.int .i64 c) ∧ W.cell? ⟨w.heap.size, 1, none⟩ = some (.int .i64 k) ∧ W.cell? ⟨w.heap.size, 2, none⟩ = some (.int .i64 hi) ∧ W.cell? ⟨w.heap.size, 3, none⟩ = some (.int .i64 v) ∧ W.cell? ⟨(w.heap.size + 1), 0, none⟩ = some (.int .i64 e4) ∧ W.cell? ⟨(w.heap.size + 1), 1, none⟩ = some (.bool o4) ∧ W.cell? ⟨(w.heap.size + 1), 2, none⟩ = some (.int .i64 k4) ∧ W.cell? ⟨(w.heap.size + 1), 3, none⟩ = some (.int .i64 v4) ∧ W.cell? ⟨(w.heap.size + 1), 4, none⟩ = some (.int .i64 n4) ∧ W.cell? ⟨(w.heap.size + 1), 5, none⟩ = some (.slice a4 p4.length cap4) ∧ W.cell? ⟨(w.heap.size + 1 + 1), 0, none⟩ = some (.int .i64 e5) ∧ W.cell? ⟨(w.heap.size + 1 + 1), 1, none⟩ = some (.bool o5) ∧ W.cell? ⟨(w.heap.size + 1 + 1), 2, none⟩ = some (.int .i64 k5) ∧ W.cell? ⟨(w.heap.size + 1 + 1), 3, none⟩ = some (.int .i64 v5) ∧ W.cell? ⟨(w.heap.size + 1 + 1), 4, none⟩ = some (.int .i64 n5) ∧ W.cell? ⟨(w.heap.size + 1 + 1), 5, none⟩ = some (.slice a5 p5.length cap5) ∧ W.cell? ⟨w1.heap.size, 0, none⟩ = some (.int .i64 De) ∧ W.cell? ⟨w1.heap.size, 1, none⟩ = some (.bool Do) ∧ W.cell? ⟨w1.heap.size, 2, none⟩ = some (.int .i64 Dk) ∧ W.cell? ⟨w1.heap.size, 3, none⟩ = some (.int .i64 Dv) ∧ W.cell? ⟨w1.heap.size, 4, none⟩ = some (.int .i64 Dn) ∧ W.cell? ⟨w1.heap.size, 5, none⟩ = some (.slice aa Dp.length ca1) ∧ W.cell? ⟨w2.heap.size, 0, none⟩ = some (.int .i64 De) ∧ W.cell? ⟨w2.heap.size, 1, none⟩ = some (.bool Do) ∧ W.cell? ⟨w2.heap.size, 2, none⟩ = some (.int .i64 Dk) ∧ W.cell? ⟨w2.heap.size, 3, none⟩ = some (.int .i64 Dv) ∧ W.cell? ⟨w2.heap.size, 4, none⟩ = some (.int .i64 Dn) ∧ W.cell? ⟨w2.heap.size, 5, none⟩ = some (.slice aa2 Dp.length ca2) ∧ Below w3.heap.size w3 W)
        (first | exact fs_keep HFS.out ((Below.refl _ _).drew) | exact fs_keep (by assumption) hb | exact HFS.out | go_keep)
        (first
          | (go_at_call 11; ((with_reducible refine (cs1 _ _ _ _ _ (HR1.out.below (fs_b (by assumption))) (HR2.out.below (fs_b (by assumption)))).mono ?_); rintro e wn ⟨rfl, hb⟩))
          | (go_at_call 11; ((with_reducible refine (cl2 _ (HZ0.out.below (fs_b (by assumption))) (HZ1.out.below (fs_b (by assumption)))).mono ?_); rintro e wn ⟨rfl, hb⟩))
          | (go_at_call 12; ((with_reducible refine (cs2 _ _ _ _ _ (HT1.out.below (fs_b (by assumption))) (HT2.out.below (fs_b (by assumption)))).mono ?_); rintro e wn ⟨rfl, hb⟩))
          | (go_at_call 12; ((with_reducible refine (ct2 _ (HZ4.out.below (fs_b (by assumption))) (HZ5.out.below (fs_b (by assumption)))).mono ?_); rintro e wn ⟨rfl, hb⟩))
          | (go_at_call 21; ((with_reducible refine (ct1 _ (HZ4.out.below (fs_b (by assumption))) (HZ5.out.below (fs_b (by assumption)))).mono ?_); rintro e wn ⟨rfl, hb⟩))
          | (go_at_call 13; ((with_reducible refine (cm1 _ (HZ0.out.below (fs_b (by assumption)))).mono ?_); rintro e wn ⟨rfl, hb⟩))
          | (go_at_call 14; ((with_reducible refine (cm2 _ (HZ0.out.below (fs_b (by assumption)))).mono ?_); rintro e wn ⟨rfl, hb⟩))
          | (go_at_call 15; ((with_reducible refine (co1 _ ).mono ?_); rintro e wn ⟨rfl, hb⟩))
          | (go_at_call 16; ((with_reducible refine (co2 _ ).mono ?_); rintro e wn ⟨rfl, hb⟩))
          | (go_at_call 17; ((with_reducible refine (cu _ ).mono ?_); rintro e wn ⟨rfl, hb⟩))
          | (go_at_call 18; ((with_reducible refine (cf1 _ (HZ0.out.below (fs_b (by assumption)))).mono ?_); rintro e wn ⟨rfl, hb⟩))
          | (go_at_call 19; ((with_reducible refine (cf2 _ (HZ0.out.below (fs_b (by assumption)))).mono ?_); rintro e wn ⟨rfl, hb⟩))
          | (go_at_call 20; ((with_reducible refine (cl1 _ (HZ0.out.below (fs_b (by assumption))) (HZ1.out.below (fs_b (by assumption)))).mono ?_); rintro e wn ⟨rfl, hb⟩))
          | (go_at_call 8; ((with_reducible refine (ca _ ).mono ?_); rintro e wn ⟨rfl, hb⟩)))
      have hfin := fs_b (by assumption)
      go_wp2_with (fail)
      go_ret
      exact ⟨rfl, bel2 HB3.out hfin⟩
    · have cu := fun W => lupd_any c k hi v W false (decide_eq_false (fun h => u2 h.2))
      have u2d : decide (c ≤ 3) = false := decide_eq_false u2
      have u1d : decide (1 ≤ c) = true := decide_eq_true u1
      clear u1 u2
      dsimp only [List.append]
      go_region_held3 (fun W => W.cell? ⟨w.heap.size, 0, none⟩ = some (.int .i64 c) ∧ W.cell? ⟨w.heap.size, 1, none⟩ = some (.int .i64 k) ∧ W.cell? ⟨w.heap.size, 2, none⟩ = some (.int .i64 hi) ∧ W.cell? ⟨w.heap.size, 3, none⟩ = some (.int .i64 v) ∧ W.cell? ⟨(w.heap.size + 1), 0, none⟩ = some (.int .i64 e4) ∧ W.cell? ⟨(w.heap.size + 1), 1, none⟩ = some (.bool o4) ∧ W.cell? ⟨(w.heap.size + 1), 2, none⟩ = some (.int .i64 k4) ∧ W.cell? ⟨(w.heap.size + 1), 3, none⟩ = some (.int .i64 v4) ∧ W.cell? ⟨(w.heap.size + 1), 4, none⟩ = some (.int .i64 n4) ∧ W.cell? ⟨(w.heap.size + 1), 5, none⟩ = some (.slice a4 p4.length cap4) ∧ W.cell? ⟨(w.heap.size + 1 + 1), 0, none⟩ = some (.int .i64 e5) ∧ W.cell? ⟨(w.heap.size + 1 + 1), 1, none⟩ = some (.bool o5) ∧ W.cell? ⟨(w.heap.size + 1 + 1), 2, none⟩ = some (.int .i64 k5) ∧ W.cell? ⟨(w.heap.size + 1 + 1), 3, none⟩ = some (.int .i64 v5) ∧ W.cell? ⟨(w.heap.size + 1 + 1), 4, none⟩ = some (.int .i64 n5) ∧ W.cell? ⟨(w.heap.size + 1 + 1), 5, none⟩ = some (.slice a5 p5.length cap5) ∧ W.cell? ⟨w1.heap.size, 0, none⟩ = some (.int .i64 De) ∧ W.cell? ⟨w1.heap.size, 1, none⟩ = some (.bool Do) ∧ W.cell? ⟨w1.heap.size, 2, none⟩ = some (.int .i64 Dk) ∧ W.cell? ⟨w1.heap.size, 3, none⟩ = some (.int .i64 Dv) ∧ W.cell? ⟨w1.heap.size, 4, none⟩ = some (.int .i64 Dn) ∧ W.cell? ⟨w1.heap.size, 5, none⟩ = some (.slice aa Dp.length ca1) ∧ W.cell? ⟨w2.heap.size, 0, none⟩ = some (.int .i64 De) ∧ W.cell? ⟨w2.heap.size, 1, none⟩ = some (.bool Do) ∧ W.cell? ⟨w2.heap.size, 2, none⟩ = some (.int .i64 Dk) ∧ W.cell? ⟨w2.heap.size, 3, none⟩ = some (.int .i64 Dv) ∧ W.cell? ⟨w2.heap.size, 4, none⟩ = some (.int .i64 Dn) ∧ W.cell? ⟨w2.heap.size, 5, none⟩ = some (.slice aa2 Dp.length ca2) ∧ Below w3.heap.size w3 W)
        (first | exact fs_keep HFS.out ((Below.refl _ _).drew) | exact fs_keep (by assumption) hb | exact HFS.out | go_keep)
        (first
          | (go_at_call 11; ((with_reducible refine (cs1 _ _ _ _ _ (HR1.out.below (fs_b (by assumption))) (HR2.out.below (fs_b (by assumption)))).mono ?_); rintro e wn ⟨rfl, hb⟩))
          | (go_at_call 11; ((with_reducible refine (cl2 _ (HZ0.out.below (fs_b (by assumption))) (HZ1.out.below (fs_b (by assumption)))).mono ?_); rintro e wn ⟨rfl, hb⟩))
          | (go_at_call 12; ((with_reducible refine (cs2 _ _ _ _ _ (HT1.out.below (fs_b (by assumption))) (HT2.out.below (fs_b (by assumption)))).mono ?_); rintro e wn ⟨rfl, hb⟩))
          | (go_at_call 12; ((with_reducible refine (ct2 _ (HZ4.out.below (fs_b (by assumption))) (HZ5.out.below (fs_b (by assumption)))).mono ?_); rintro e wn ⟨rfl, hb⟩))
          | (go_at_call 21; ((with_reducible refine (ct1 _ (HZ4.out.below (fs_b (by assumption))) (HZ5.out.below (fs_b (by assumption)))).mono ?_); rintro e wn ⟨rfl, hb⟩))
          | (go_at_call 13; ((with_reducible refine (cm1 _ (HZ0.out.below (fs_b (by assumption)))).mono ?_); rintro e wn ⟨rfl, hb⟩))
          | (go_at_call 14; ((with_reducible refine (cm2 _ (HZ0.out.below (fs_b (by assumption)))).mono ?_); rintro e wn ⟨rfl, hb⟩))
          | (go_at_call 15; ((with_reducible refine (co1 _ ).mono ?_); rintro e wn ⟨rfl, hb⟩))
          | (go_at_call 16; ((with_reducible refine (co2 _ ).mono ?_); rintro e wn ⟨rfl, hb⟩))
          | (go_at_call 17; ((with_reducible refine (cu _ ).mono ?_); rintro e wn ⟨rfl, hb⟩))
          | (go_at_call 18; ((with_reducible refine (cf1 _ (HZ0.out.below (fs_b (by assumption)))).mono ?_); rintro e wn ⟨rfl, hb⟩))
          | (go_at_call 19; ((with_reducible refine (cf2 _ (HZ0.out.below (fs_b (by assumption)))).mono ?_); rintro e wn ⟨rfl, hb⟩))
          | (go_at_call 20; ((with_reducible refine (cl1 _ (HZ0.out.below (fs_b (by assumption))) (HZ1.out.below (fs_b (by assumption)))).mono ?_); rintro e wn ⟨rfl, hb⟩))
          | (go_at_call 8; ((with_reducible refine (ca _ ).mono ?_); rintro e wn ⟨rfl, hb⟩)))
      have hfin := fs_b (by assumption)
      go_wp2_with (fail)
      go_ret
      exact ⟨rfl, bel2 HB3.out hfin⟩
  · have cu := fun W => lupd_any c k hi v W false (decide_eq_false (fun h => u1 h.1))
    have u1d : decide (1 ≤ c) = false := decide_eq_false u1
    clear u1
    dsimp only [List.append]
    refine wp_region_held_drew (S := (fun W => W.cell? ⟨w.heap.size, 0, none⟩ = some (.int .i64 c) ∧ W.cell? ⟨w.heap.size, 1, none⟩ = some (.int .i64 k) ∧ W.cell? ⟨w.heap.size, 2, none⟩ = some (.int .i64 hi) ∧ W.cell? ⟨w.heap.size, 3, none⟩ = some (.int .i64 v) ∧ W.cell? ⟨(w.heap.size + 1), 0, none⟩ = some (.int .i64 e4) ∧ W.cell? ⟨(w.heap.size + 1), 1, none⟩ = some (.bool o4) ∧ W.cell? ⟨(w.heap.size + 1), 2, none⟩ = some (.int .i64 k4) ∧ W.cell? ⟨(w.heap.size + 1), 3, none⟩ = some (.int .i64 v4) ∧ W.cell? ⟨(w.heap.size + 1), 4, none⟩ = some (.int .i64 n4) ∧ W.cell? ⟨(w.heap.size + 1), 5, none⟩ = some (.slice a4 p4.length cap4) ∧ W.cell? ⟨(w.heap.size + 1 + 1), 0, none⟩ = some (.int .i64 e5) ∧ W.cell? ⟨(w.heap.size + 1 + 1), 1, none⟩ = some (.bool o5) ∧ W.cell? ⟨(w.heap.size + 1 + 1), 2, none⟩ = some (.int .i64 k5) ∧ W.cell? ⟨(w.heap.size + 1 + 1), 3, none⟩ = some (.int .i64 v5) ∧ W.cell? ⟨(w.heap.size + 1 + 1), 4, none⟩ = some (.int .i64 n5) ∧ W.cell? ⟨(w.heap.size + 1 + 1), 5, none⟩ = some (.slice a5 p5.length cap5) ∧ W.cell? ⟨w1.heap.size, 0, none⟩ = some (.int .i64 De) ∧ W.cell? ⟨w1.heap.size, 1, none⟩ = some (.bool Do) ∧ W.cell? ⟨w1.heap.size, 2, none⟩ = some (.int .i64 Dk) ∧ W.cell? ⟨w1.heap.size, 3, none⟩ = some (.int .i64 Dv) ∧ W.cell? ⟨w1.heap.size, 4, none⟩ = some (.int .i64 Dn) ∧ W.cell? ⟨w1.heap.size, 5, none⟩ = some (.slice aa Dp.length ca1) ∧ W.cell? ⟨w2.heap.size, 0, none⟩ = some (.int .i64 De) ∧ W.cell? ⟨w2.heap.size, 1, none⟩ = some (.bool Do) ∧ W.cell? ⟨w2.heap.size, 2, none⟩ = some (.int .i64 Dk) ∧ W.cell? ⟨w2.heap.size, 3, none⟩ = some (.int .i64 Dv) ∧ W.cell? ⟨w2.heap.size, 4, none⟩ = some (.int .i64 Dn) ∧ W.cell? ⟨w2.heap.size, 5, none⟩ = some (.slice aa2 Dp.length ca2) ∧ Below w3.heap.size w3 W)) (by kernel_rfl) (fs_keep HFS.out ((Below.refl _ _).drew)) (fun hHeld => ?_)
    refine wpAnyH_take (i := 0) (v := ?_) rfl (by kernel_rfl) (by kernel_rfl) (by kernel_rfl) (fun _ _ _ h => h) (Or.inl ⟨by rfl, ?_⟩) hHeld ?_
    rotate_left
    · (intro wS hSw; (try dsimp only at hSw); (try go_split_ands); go_simp; try with_reducible rfl)
    try simp only [List.getElem_toArray, List.getElem_cons_succ, List.getElem_cons_zero, Act.put, List.setIfInBounds_toArray, List.set_cons_zero, List.set_cons_succ]
    refine wpAnyH_take (i := 1) (v := ?_) rfl (by kernel_rfl) (by kernel_rfl) (by kernel_rfl) (fun _ _ _ h => h) (Or.inl ⟨by rfl, ?_⟩) hHeld ?_
    rotate_left
    · (intro wS hSw; (try dsimp only at hSw); (try go_split_ands); go_simp; try with_reducible rfl)
    try simp only [List.getElem_toArray, List.getElem_cons_succ, List.getElem_cons_zero, Act.put, List.setIfInBounds_toArray, List.set_cons_zero, List.set_cons_succ]
    refine wpAnyH_ready (rs := [2]) (by kernel_rfl) (by simp) ?_
    refine AllReadyH.cons rfl (fun K hK => ?_) AllReadyH.nil
    go_simp
    (with_reducible refine (cs1 _ _ _ _ _ (HR1.out.below (fs_b (by assumption))) (HR2.out.below (fs_b (by assumption)))).mono ?_); rintro e wn ⟨rfl, hb⟩
    refine hK.out _ _ ?_ (fun hNext => ?_)
    · exact fs_keep (by assumption) hb
    clear hK K hHeld
    have hHeld := hNext
    clear hNext
    try simp only [List.getElem_toArray, List.getElem_cons_succ, List.getElem_cons_zero, Act.put, List.setIfInBounds_toArray, List.set_cons_zero, List.set_cons_succ]
    refine wpAnyH_take (i := 3) (v := ?_) rfl (by kernel_rfl) (by kernel_rfl) (by kernel_rfl) (fun _ _ _ h => h) (Or.inl ⟨by rfl, ?_⟩) hHeld ?_
    rotate_left
    · (intro wS hSw; (try dsimp only at hSw); (try go_split_ands); go_simp; try with_reducible rfl)
    try simp only [List.getElem_toArray, List.getElem_cons_succ, List.getElem_cons_zero, Act.put, List.setIfInBounds_toArray, List.set_cons_zero, List.set_cons_succ]
    refine wpAnyH_take (i := 4) (v := ?_) rfl (by kernel_rfl) (by kernel_rfl) (by kernel_rfl) (fun _ _ _ h => h) (Or.inl ⟨by rfl, ?_⟩) hHeld ?_
    rotate_left
    · (intro wS hSw; (try dsimp only at hSw); (try go_split_ands); go_simp; try with_reducible rfl)
    try simp only [List.getElem_toArray, List.getElem_cons_succ, List.getElem_cons_zero, Act.put, List.setIfInBounds_toArray, List.set_cons_zero, List.set_cons_succ]
    refine wpAnyH_take (i := 5) (v := ?_) rfl (by kernel_rfl) (by kernel_rfl) (by kernel_rfl) (fun _ _ _ h => h) (Or.inl ⟨by rfl, ?_⟩) hHeld ?_
    rotate_left
    · (intro wS hSw; (try dsimp only at hSw); (try go_split_ands); go_simp; try with_reducible rfl)
    try simp only [List.getElem_toArray, List.getElem_cons_succ, List.getElem_cons_zero, Act.put, List.setIfInBounds_toArray, List.set_cons_zero, List.set_cons_succ]
    refine wpAnyH_ready (rs := [6]) (by kernel_rfl) (by simp) ?_
    refine AllReadyH.cons rfl (fun K hK => ?_) AllReadyH.nil
    go_simp
    (with_reducible refine (cs2 _ _ _ _ _ (HT1.out.below (fs_b (by assumption))) (HT2.out.below (fs_b (by assumption)))).mono ?_); rintro e wn ⟨rfl, hb⟩
    refine hK.out _ _ ?_ (fun hNext => ?_)
    · exact fs_keep (by assumption) hb
    clear hK K hHeld
    have hHeld := hNext
    clear hNext
    try simp only [List.getElem_toArray, List.getElem_cons_succ, List.getElem_cons_zero, Act.put, List.setIfInBounds_toArray, List.set_cons_zero, List.set_cons_succ]
    refine wpAnyH_take (i := 7) (v := ?_) rfl (by kernel_rfl) (by kernel_rfl) (by kernel_rfl) (fun _ _ _ h => h) (Or.inl ⟨by rfl, ?_⟩) hHeld ?_
    rotate_left
    · (intro wS hSw; (try dsimp only at hSw); (try go_split_ands); go_simp; try with_reducible rfl)
    try simp only [List.getElem_toArray, List.getElem_cons_succ, List.getElem_cons_zero, Act.put, List.setIfInBounds_toArray, List.set_cons_zero, List.set_cons_succ]
    refine wpAnyH_take (i := 8) (v := ?_) rfl (by kernel_rfl) (by kernel_rfl) (by kernel_rfl) (fun _ _ _ h => h) (Or.inl ⟨by rfl, ?_⟩) hHeld ?_
    rotate_left
    · (intro wS hSw; (try dsimp only at hSw); (try go_split_ands); go_simp; try with_reducible rfl)
    try simp only [List.getElem_toArray, List.getElem_cons_succ, List.getElem_cons_zero, Act.put, List.setIfInBounds_toArray, List.set_cons_zero, List.set_cons_succ]
    refine wpAnyH_take (i := 9) (v := ?_) rfl (by kernel_rfl) (by kernel_rfl) (by kernel_rfl) (fun _ _ _ h => h) (Or.inl ⟨by rfl, ?_⟩) hHeld ?_
    rotate_left
    · (intro wS hSw; (try dsimp only at hSw); (try go_split_ands); go_simp; try with_reducible rfl)
    try simp only [List.getElem_toArray, List.getElem_cons_succ, List.getElem_cons_zero, Act.put, List.setIfInBounds_toArray, List.set_cons_zero, List.set_cons_succ]
    refine wpAnyH_take (i := 11) (v := ?_) rfl (by kernel_rfl) (by kernel_rfl) (by kernel_rfl) (fun _ _ _ h => h) (Or.inl ⟨by rfl, ?_⟩) hHeld ?_
    rotate_left
    · (intro wS hSw; (try dsimp only at hSw); (try go_split_ands); go_simp; try with_reducible rfl)
    try simp only [List.getElem_toArray, List.getElem_cons_succ, List.getElem_cons_zero, Act.put, List.setIfInBounds_toArray, List.set_cons_zero, List.set_cons_succ]
    refine wpAnyH_ready (rs := [10]) (by kernel_rfl) (by simp) ?_
    refine AllReadyH.cons rfl (fun K hK => ?_) AllReadyH.nil
    go_simp
    (with_reducible refine (cm1 _ (HZ0.out.below (fs_b (by assumption)))).mono ?_); rintro e wn ⟨rfl, hb⟩
    refine hK.out _ _ ?_ (fun hNext => ?_)
    · exact fs_keep (by assumption) hb
    clear hK K hHeld
    have hHeld := hNext
    clear hNext
    try simp only [List.getElem_toArray, List.getElem_cons_succ, List.getElem_cons_zero, Act.put, List.setIfInBounds_toArray, List.set_cons_zero, List.set_cons_succ]
    refine wpAnyH_ready (rs := [12]) (by kernel_rfl) (by simp) ?_
    refine AllReadyH.cons rfl (fun K hK => ?_) AllReadyH.nil
    go_simp
    (with_reducible refine (cm2 _ (HZ0.out.below (fs_b (by assumption)))).mono ?_); rintro e wn ⟨rfl, hb⟩
    refine hK.out _ _ ?_ (fun hNext => ?_)
    · exact fs_keep (by assumption) hb
    clear hK K hHeld
    have hHeld := hNext
    clear hNext
    try simp only [List.getElem_toArray, List.getElem_cons_succ, List.getElem_cons_zero, Act.put, List.setIfInBounds_toArray, List.set_cons_zero, List.set_cons_succ]
    refine wpAnyH_take (i := 13) (v := ?_) rfl (by kernel_rfl) (by kernel_rfl) (by kernel_rfl) (fun _ _ _ h => h) (Or.inl ⟨by rfl, ?_⟩) hHeld ?_
    rotate_left
    · (intro wS hSw; (try dsimp only at hSw); (try go_split_ands); go_simp; try with_reducible rfl)
    try simp only [List.getElem_toArray, List.getElem_cons_succ, List.getElem_cons_zero, Act.put, List.setIfInBounds_toArray, List.set_cons_zero, List.set_cons_succ]
    refine wpAnyH_take (i := 14) (v := ?_) rfl (by kernel_rfl) (by kernel_rfl) (by kernel_rfl) (fun _ _ _ h => h) (Or.inl ⟨by rfl, ?_⟩) hHeld ?_
    rotate_left
    · (intro wS hSw; (try dsimp only at hSw); (try go_split_ands); go_simp; try with_reducible rfl)
    try simp only [List.getElem_toArray, List.getElem_cons_succ, List.getElem_cons_zero, Act.put, List.setIfInBounds_toArray, List.set_cons_zero, List.set_cons_succ]
    refine wpAnyH_take (i := 15) (v := ?_) rfl (by kernel_rfl) (by kernel_rfl) (by kernel_rfl) (fun _ _ _ h => h) (Or.inl ⟨by rfl, ?_⟩) hHeld ?_
    rotate_left
    · (intro wS hSw; (try dsimp only at hSw); (try go_split_ands); go_simp; try with_reducible rfl)
    try simp only [List.getElem_toArray, List.getElem_cons_succ, List.getElem_cons_zero, Act.put, List.setIfInBounds_toArray, List.set_cons_zero, List.set_cons_succ]
    refine wpAnyH_take (i := 16) (v := ?_) rfl (by kernel_rfl) (by kernel_rfl) (by kernel_rfl) (fun _ _ _ h => h) (Or.inl ⟨by rfl, ?_⟩) hHeld ?_
    rotate_left
    · (intro wS hSw; (try dsimp only at hSw); (try go_split_ands); go_simp; try with_reducible rfl)
    try simp only [List.getElem_toArray, List.getElem_cons_succ, List.getElem_cons_zero, Act.put, List.setIfInBounds_toArray, List.set_cons_zero, List.set_cons_succ]
    refine wpAnyH_take (i := 18) (v := ?_) rfl (by kernel_rfl) (by kernel_rfl) (by kernel_rfl) (fun _ _ _ h => h) (Or.inl ⟨by rfl, ?_⟩) hHeld ?_
    rotate_left
    · (intro wS hSw; (try dsimp only at hSw); (try go_split_ands); go_simp; try with_reducible rfl)
    try simp only [List.getElem_toArray, List.getElem_cons_succ, List.getElem_cons_zero, Act.put, List.setIfInBounds_toArray, List.set_cons_zero, List.set_cons_succ]
    refine wpAnyH_ready (rs := [17]) (by kernel_rfl) (by simp) ?_
    refine AllReadyH.cons rfl (fun K hK => ?_) AllReadyH.nil
    go_simp
    (with_reducible refine (co1 _ ).mono ?_); rintro e wn ⟨rfl, hb⟩
    refine hK.out _ _ ?_ (fun hNext => ?_)
    · exact fs_keep (by assumption) hb
    clear hK K hHeld
    have hHeld := hNext
    clear hNext
    try simp only [List.getElem_toArray, List.getElem_cons_succ, List.getElem_cons_zero, Act.put, List.setIfInBounds_toArray, List.set_cons_zero, List.set_cons_succ]
    refine wpAnyH_ready (rs := [19]) (by kernel_rfl) (by simp) ?_
    refine AllReadyH.cons rfl (fun K hK => ?_) AllReadyH.nil
    go_simp
    (with_reducible refine (co2 _ ).mono ?_); rintro e wn ⟨rfl, hb⟩
    refine hK.out _ _ ?_ (fun hNext => ?_)
    · exact fs_keep (by assumption) hb
    clear hK K hHeld
    have hHeld := hNext
    clear hNext
    try simp only [List.getElem_toArray, List.getElem_cons_succ, List.getElem_cons_zero, Act.put, List.setIfInBounds_toArray, List.set_cons_zero, List.set_cons_succ]
    refine wpAnyH_take (i := 20) (v := ?_) rfl (by kernel_rfl) (by kernel_rfl) (by kernel_rfl) (fun _ _ _ h => h) (Or.inl ⟨by rfl, ?_⟩) hHeld ?_
    rotate_left
    · (intro wS hSw; (try dsimp only at hSw); (try go_split_ands); go_simp; try with_reducible rfl)
    try simp only [List.getElem_toArray, List.getElem_cons_succ, List.getElem_cons_zero, Act.put, List.setIfInBounds_toArray, List.set_cons_zero, List.set_cons_succ]
    refine wpAnyH_take (i := 21) (v := ?_) rfl (by kernel_rfl) (by kernel_rfl) (by kernel_rfl) (fun _ _ _ h => h) (Or.inl ⟨by rfl, ?_⟩) hHeld ?_
    rotate_left
    · (intro wS hSw; (try dsimp only at hSw); (try go_split_ands); go_simp; try with_reducible rfl)
    try simp only [List.getElem_toArray, List.getElem_cons_succ, List.getElem_cons_zero, Act.put, List.setIfInBounds_toArray, List.set_cons_zero, List.set_cons_succ]
    refine wpAnyH_take (i := 22) (v := ?_) rfl (by kernel_rfl) (by kernel_rfl) (by kernel_rfl) (fun _ _ _ h => h) (Or.inl ⟨by rfl, ?_⟩) hHeld ?_
    rotate_left
    · (intro wS hSw; (try dsimp only at hSw); (try go_split_ands); go_simp; try with_reducible rfl)
    try simp only [List.getElem_toArray, List.getElem_cons_succ, List.getElem_cons_zero, Act.put, List.setIfInBounds_toArray, List.set_cons_zero, List.set_cons_succ]
    refine wpAnyH_take (i := 23) (v := ?_) rfl (by kernel_rfl) (by kernel_rfl) (by kernel_rfl) (fun _ _ _ h => h) (Or.inl ⟨by rfl, ?_⟩) hHeld ?_
    rotate_left
    · (intro wS hSw; (try dsimp only at hSw); (try go_split_ands); go_simp; try with_reducible rfl)
    try simp only [List.getElem_toArray, List.getElem_cons_succ, List.getElem_cons_zero, Act.put, List.setIfInBounds_toArray, List.set_cons_zero, List.set_cons_succ]
    refine wpAnyH_take (i := 25) (v := ?_) rfl (by kernel_rfl) (by kernel_rfl) (by kernel_rfl) (fun _ _ _ h => h) (Or.inl ⟨by rfl, ?_⟩) hHeld ?_
    rotate_left
    · (intro wS hSw; (try dsimp only at hSw); (try go_split_ands); go_simp; try with_reducible rfl)
    try simp only [List.getElem_toArray, List.getElem_cons_succ, List.getElem_cons_zero, Act.put, List.setIfInBounds_toArray, List.set_cons_zero, List.set_cons_succ]
    refine wpAnyH_take (i := 26) (v := ?_) rfl (by kernel_rfl) (by kernel_rfl) (by kernel_rfl) (fun _ _ _ h => h) (Or.inl ⟨by rfl, ?_⟩) hHeld ?_
    rotate_left
    · (intro wS hSw; (try dsimp only at hSw); (try go_split_ands); go_simp; try with_reducible rfl)
    try simp only [List.getElem_toArray, List.getElem_cons_succ, List.getElem_cons_zero, Act.put, List.setIfInBounds_toArray, List.set_cons_zero, List.set_cons_succ]
    refine wpAnyH_take (i := 27) (v := ?_) rfl (by kernel_rfl) (by kernel_rfl) (by kernel_rfl) (fun _ _ _ h => h) (Or.inl ⟨by rfl, ?_⟩) hHeld ?_
    rotate_left
    · (intro wS hSw; (try dsimp only at hSw); (try go_split_ands); go_simp; try with_reducible rfl)
    try simp only [List.getElem_toArray, List.getElem_cons_succ, List.getElem_cons_zero, Act.put, List.setIfInBounds_toArray, List.set_cons_zero, List.set_cons_succ]
    refine wpAnyH_ready (rs := [24]) (by kernel_rfl) (by simp) ?_
    refine AllReadyH.cons rfl (fun K hK => ?_) AllReadyH.nil
    go_simp
    (with_reducible refine (cu _ ).mono ?_); rintro e wn ⟨rfl, hb⟩
    refine hK.out _ _ ?_ (fun hNext => ?_)
    · exact fs_keep (by assumption) hb
    clear hK K hHeld
    have hHeld := hNext
    clear hNext
    try simp only [List.getElem_toArray, List.getElem_cons_succ, List.getElem_cons_zero, Act.put, List.setIfInBounds_toArray, List.set_cons_zero, List.set_cons_succ]
    refine wpAnyH_take (i := 28) (v := ?_) rfl (by kernel_rfl) (by kernel_rfl) (by kernel_rfl) (fun _ _ _ h => h) (Or.inl ⟨by rfl, ?_⟩) hHeld ?_
    rotate_left
    · (intro wS hSw; (try dsimp only at hSw); (try go_split_ands); go_simp; try with_reducible rfl)
    try simp only [List.getElem_toArray, List.getElem_cons_succ, List.getElem_cons_zero, Act.put, List.setIfInBounds_toArray, List.set_cons_zero, List.set_cons_succ]
    refine wpAnyH_take (i := 29) (v := undef) rfl (by kernel_rfl) (by kernel_rfl) (by kernel_rfl) (fun _ _ _ h => h) (Or.inr ⟨by rfl, rfl⟩) hHeld ?_
    try simp only [List.getElem_toArray, List.getElem_cons_succ, List.getElem_cons_zero, Act.put, List.setIfInBounds_toArray, List.set_cons_zero, List.set_cons_succ]
    refine wpAnyH_take (i := 30) (v := undef) rfl (by kernel_rfl) (by kernel_rfl) (by kernel_rfl) (fun _ _ _ h => h) (Or.inr ⟨by rfl, rfl⟩) hHeld ?_
    try simp only [List.getElem_toArray, List.getElem_cons_succ, List.getElem_cons_zero, Act.put, List.setIfInBounds_toArray, List.set_cons_zero, List.set_cons_succ]
    refine wpAnyH_take (i := 31) (v := undef) rfl (by kernel_rfl) (by kernel_rfl) (by kernel_rfl) (fun _ _ _ h => h) (Or.inr ⟨by rfl, rfl⟩) hHeld ?_
    try simp only [List.getElem_toArray, List.getElem_cons_succ, List.getElem_cons_zero, Act.put, List.setIfInBounds_toArray, List.set_cons_zero, List.set_cons_succ]
    refine wpAnyH_take (i := 32) (v := ?_) rfl (by kernel_rfl) (by kernel_rfl) (by kernel_rfl) (fun _ _ _ h => h) (Or.inl ⟨by rfl, ?_⟩) hHeld ?_
    rotate_left
    · (intro wS hSw; (try dsimp only at hSw); (try go_split_ands); go_simp; try with_reducible rfl)
    try simp only [List.getElem_toArray, List.getElem_cons_succ, List.getElem_cons_zero, Act.put, List.setIfInBounds_toArray, List.set_cons_zero, List.set_cons_succ]
    refine wpAnyH_take (i := 33) (v := ?_) rfl (by kernel_rfl) (by kernel_rfl) (by kernel_rfl) (fun _ _ _ h => h) (Or.inl ⟨by rfl, ?_⟩) hHeld ?_
    rotate_left
    · (intro wS hSw; (try dsimp only at hSw); (try go_split_ands); go_simp; try with_reducible rfl)
    try simp only [List.getElem_toArray, List.getElem_cons_succ, List.getElem_cons_zero, Act.put, List.setIfInBounds_toArray, List.set_cons_zero, List.set_cons_succ]
    refine wpAnyH_take (i := 34) (v := ?_) rfl (by kernel_rfl) (by kernel_rfl) (by kernel_rfl) (fun _ _ _ h => h) (Or.inl ⟨by rfl, ?_⟩) hHeld ?_
    rotate_left
    · (intro wS hSw; (try dsimp only at hSw); (try go_split_ands); go_simp; try with_reducible rfl)
    try simp only [List.getElem_toArray, List.getElem_cons_succ, List.getElem_cons_zero, Act.put, List.setIfInBounds_toArray, List.set_cons_zero, List.set_cons_succ]
    refine wpAnyH_take (i := 35) (v := ?_) rfl (by kernel_rfl) (by kernel_rfl) (by kernel_rfl) (fun _ _ _ h => h) (Or.inl ⟨by rfl, ?_⟩) hHeld ?_
    rotate_left
    · (intro wS hSw; (try dsimp only at hSw); (try go_split_ands); go_simp; try with_reducible rfl)
    try simp only [List.getElem_toArray, List.getElem_cons_succ, List.getElem_cons_zero, Act.put, List.setIfInBounds_toArray, List.set_cons_zero, List.set_cons_succ]
    refine wpAnyH_take (i := 36) (v := ?_) rfl (by kernel_rfl) (by kernel_rfl) (by kernel_rfl) (fun _ _ _ h => h) (Or.inl ⟨by rfl, ?_⟩) hHeld ?_
    rotate_left
    · (intro wS hSw; (try dsimp only at hSw); (try go_split_ands); go_simp; try with_reducible rfl)
    try simp only [List.getElem_toArray, List.getElem_cons_succ, List.getElem_cons_zero, Act.put, List.setIfInBounds_toArray, List.set_cons_zero, List.set_cons_succ]
    refine wpAnyH_take (i := 37) (v := ?_) rfl (by kernel_rfl) (by kernel_rfl) (by kernel_rfl) (fun _ _ _ h => h) (Or.inl ⟨by rfl, ?_⟩) hHeld ?_
    rotate_left
    · (intro wS hSw; (try dsimp only at hSw); (try go_split_ands); go_simp; try with_reducible rfl)
    try simp only [List.getElem_toArray, List.getElem_cons_succ, List.getElem_cons_zero, Act.put, List.setIfInBounds_toArray, List.set_cons_zero, List.set_cons_succ]
    refine wpAnyH_take (i := 39) (v := ?_) rfl (by kernel_rfl) (by kernel_rfl) (by kernel_rfl) (fun _ _ _ h => h) (Or.inl ⟨by rfl, ?_⟩) hHeld ?_
    rotate_left
    · (intro wS hSw; (try dsimp only at hSw); (try go_split_ands); go_simp; try with_reducible rfl)
    try simp only [List.getElem_toArray, List.getElem_cons_succ, List.getElem_cons_zero, Act.put, List.setIfInBounds_toArray, List.set_cons_zero, List.set_cons_succ]
    refine wpAnyH_take (i := 40) (v := ?_) rfl (by kernel_rfl) (by kernel_rfl) (by kernel_rfl) (fun _ _ _ h => h) (Or.inl ⟨by rfl, ?_⟩) hHeld ?_
    rotate_left
    · (intro wS hSw; (try dsimp only at hSw); (try go_split_ands); go_simp; try with_reducible rfl)
    try simp only [List.getElem_toArray, List.getElem_cons_succ, List.getElem_cons_zero, Act.put, List.setIfInBounds_toArray, List.set_cons_zero, List.set_cons_succ]
    refine wpAnyH_ready (rs := [38]) (by kernel_rfl) (by simp) ?_
    refine AllReadyH.cons rfl (fun K hK => ?_) AllReadyH.nil
    go_simp
    (with_reducible refine (cf1 _ (HZ0.out.below (fs_b (by assumption)))).mono ?_); rintro e wn ⟨rfl, hb⟩
    refine hK.out _ _ ?_ (fun hNext => ?_)
    · exact fs_keep (by assumption) hb
    clear hK K hHeld
    have hHeld := hNext
    clear hNext
    try simp only [List.getElem_toArray, List.getElem_cons_succ, List.getElem_cons_zero, Act.put, List.setIfInBounds_toArray, List.set_cons_zero, List.set_cons_succ]
    refine wpAnyH_ready (rs := [41]) (by kernel_rfl) (by simp) ?_
    refine AllReadyH.cons rfl (fun K hK => ?_) AllReadyH.nil
    go_simp
    (with_reducible refine (cf2 _ (HZ0.out.below (fs_b (by assumption)))).mono ?_); rintro e wn ⟨rfl, hb⟩
    refine hK.out _ _ ?_ (fun hNext => ?_)
    · exact fs_keep (by assumption) hb
    clear hK K hHeld
    have hHeld := hNext
    clear hNext
    try simp only [List.getElem_toArray, List.getElem_cons_succ, List.getElem_cons_zero, Act.put, List.setIfInBounds_toArray, List.set_cons_zero, List.set_cons_succ]
    refine wpAnyH_take (i := 42) (v := ?_) rfl (by kernel_rfl) (by kernel_rfl) (by kernel_rfl) (fun _ _ _ h => h) (Or.inl ⟨by rfl, ?_⟩) hHeld ?_
    rotate_left
    · (intro wS hSw; (try dsimp only at hSw); (try go_split_ands); go_simp; try with_reducible rfl)
    try simp only [List.getElem_toArray, List.getElem_cons_succ, List.getElem_cons_zero, Act.put, List.setIfInBounds_toArray, List.set_cons_zero, List.set_cons_succ]
    refine wpAnyH_take (i := 43) (v := ?_) rfl (by kernel_rfl) (by kernel_rfl) (by kernel_rfl) (fun _ _ _ h => h) (Or.inl ⟨by rfl, ?_⟩) hHeld ?_
    rotate_left
    · (intro wS hSw; (try dsimp only at hSw); (try go_split_ands); go_simp; try with_reducible rfl)
    try simp only [List.getElem_toArray, List.getElem_cons_succ, List.getElem_cons_zero, Act.put, List.setIfInBounds_toArray, List.set_cons_zero, List.set_cons_succ]
    refine wpAnyH_take (i := 44) (v := ?_) rfl (by kernel_rfl) (by kernel_rfl) (by kernel_rfl) (fun _ _ _ h => h) (Or.inl ⟨by rfl, ?_⟩) hHeld ?_
    rotate_left
    · (intro wS hSw; (try dsimp only at hSw); (try go_split_ands); go_simp; try with_reducible rfl)
    try simp only [List.getElem_toArray, List.getElem_cons_succ, List.getElem_cons_zero, Act.put, List.setIfInBounds_toArray, List.set_cons_zero, List.set_cons_succ]
    refine wpAnyH_take (i := 45) (v := ?_) rfl (by kernel_rfl) (by kernel_rfl) (by kernel_rfl) (fun _ _ _ h => h) (Or.inl ⟨by rfl, ?_⟩) hHeld ?_
    rotate_left
    · (intro wS hSw; (try dsimp only at hSw); (try go_split_ands); go_simp; try with_reducible rfl)
    try simp only [List.getElem_toArray, List.getElem_cons_succ, List.getElem_cons_zero, Act.put, List.setIfInBounds_toArray, List.set_cons_zero, List.set_cons_succ]
    refine wpAnyH_take (i := 46) (v := ?_) rfl (by kernel_rfl) (by kernel_rfl) (by kernel_rfl) (fun _ _ _ h => h) (Or.inl ⟨by rfl, ?_⟩) hHeld ?_
    rotate_left
    · (intro wS hSw; (try dsimp only at hSw); (try go_split_ands); go_simp; try with_reducible rfl)
    try simp only [List.getElem_toArray, List.getElem_cons_succ, List.getElem_cons_zero, Act.put, List.setIfInBounds_toArray, List.set_cons_zero, List.set_cons_succ]
    refine wpAnyH_take (i := 48) (v := ?_) rfl (by kernel_rfl) (by kernel_rfl) (by kernel_rfl) (fun _ _ _ h => h) (Or.inl ⟨by rfl, ?_⟩) hHeld ?_
    rotate_left
    · (intro wS hSw; (try dsimp only at hSw); (try go_split_ands); go_simp; try with_reducible rfl)
    try simp only [List.getElem_toArray, List.getElem_cons_succ, List.getElem_cons_zero, Act.put, List.setIfInBounds_toArray, List.set_cons_zero, List.set_cons_succ]
    refine wpAnyH_take (i := 49) (v := ?_) rfl (by kernel_rfl) (by kernel_rfl) (by kernel_rfl) (fun _ _ _ h => h) (Or.inl ⟨by rfl, ?_⟩) hHeld ?_
    rotate_left
    · (intro wS hSw; (try dsimp only at hSw); (try go_split_ands); go_simp; try with_reducible rfl)
    try simp only [List.getElem_toArray, List.getElem_cons_succ, List.getElem_cons_zero, Act.put, List.setIfInBounds_toArray, List.set_cons_zero, List.set_cons_succ]
    refine wpAnyH_ready (rs := [47]) (by kernel_rfl) (by simp) ?_
    refine AllReadyH.cons rfl (fun K hK => ?_) AllReadyH.nil
    go_simp
    (with_reducible refine (cl1 _ (HZ0.out.below (fs_b (by assumption))) (HZ1.out.below (fs_b (by assumption)))).mono ?_); rintro e wn ⟨rfl, hb⟩
    refine hK.out _ _ ?_ (fun hNext => ?_)
    · exact fs_keep (by assumption) hb
    clear hK K hHeld
    have hHeld := hNext
    clear hNext
    try simp only [List.getElem_toArray, List.getElem_cons_succ, List.getElem_cons_zero, Act.put, List.setIfInBounds_toArray, List.set_cons_zero, List.set_cons_succ]
    refine wpAnyH_ready (rs := [50]) (by kernel_rfl) (by simp) ?_
    refine AllReadyH.cons rfl (fun K hK => ?_) AllReadyH.nil
    go_simp
    (with_reducible refine (cl2 _ (HZ0.out.below (fs_b (by assumption))) (HZ1.out.below (fs_b (by assumption)))).mono ?_); rintro e wn ⟨rfl, hb⟩
    refine hK.out _ _ ?_ (fun hNext => ?_)
    · exact fs_keep (by assumption) hb
    clear hK K hHeld
    have hHeld := hNext
    clear hNext
    try simp only [List.getElem_toArray, List.getElem_cons_succ, List.getElem_cons_zero, Act.put, List.setIfInBounds_toArray, List.set_cons_zero, List.set_cons_succ]
    refine wpAnyH_take (i := 51) (v := ?_) rfl (by kernel_rfl) (by kernel_rfl) (by kernel_rfl) (fun _ _ _ h => h) (Or.inl ⟨by rfl, ?_⟩) hHeld ?_
    rotate_left
    · (intro wS hSw; (try dsimp only at hSw); (try go_split_ands); go_simp; try with_reducible rfl)
    try simp only [List.getElem_toArray, List.getElem_cons_succ, List.getElem_cons_zero, Act.put, List.setIfInBounds_toArray, List.set_cons_zero, List.set_cons_succ]
    refine wpAnyH_take (i := 52) (v := ?_) rfl (by kernel_rfl) (by kernel_rfl) (by kernel_rfl) (fun _ _ _ h => h) (Or.inl ⟨by rfl, ?_⟩) hHeld ?_
    rotate_left
    · (intro wS hSw; (try dsimp only at hSw); (try go_split_ands); go_simp; try with_reducible rfl)
    try simp only [List.getElem_toArray, List.getElem_cons_succ, List.getElem_cons_zero, Act.put, List.setIfInBounds_toArray, List.set_cons_zero, List.set_cons_succ]
    refine wpAnyH_take (i := 53) (v := ?_) rfl (by kernel_rfl) (by kernel_rfl) (by kernel_rfl) (fun _ _ _ h => h) (Or.inl ⟨by rfl, ?_⟩) hHeld ?_
    rotate_left
    · (intro wS hSw; (try dsimp only at hSw); (try go_split_ands); go_simp; try with_reducible rfl)
    try simp only [List.getElem_toArray, List.getElem_cons_succ, List.getElem_cons_zero, Act.put, List.setIfInBounds_toArray, List.set_cons_zero, List.set_cons_succ]
    refine wpAnyH_take (i := 54) (v := ?_) rfl (by kernel_rfl) (by kernel_rfl) (by kernel_rfl) (fun _ _ _ h => h) (Or.inl ⟨by rfl, ?_⟩) hHeld ?_
    rotate_left
    · (intro wS hSw; (try dsimp only at hSw); (try go_split_ands); go_simp; try with_reducible rfl)
    try simp only [List.getElem_toArray, List.getElem_cons_succ, List.getElem_cons_zero, Act.put, List.setIfInBounds_toArray, List.set_cons_zero, List.set_cons_succ]
    refine wpAnyH_take (i := 55) (v := ?_) rfl (by kernel_rfl) (by kernel_rfl) (by kernel_rfl) (fun _ _ _ h => h) (Or.inl ⟨by rfl, ?_⟩) hHeld ?_
    rotate_left
    · (intro wS hSw; (try dsimp only at hSw); (try go_split_ands); go_simp; try with_reducible rfl)
    try simp only [List.getElem_toArray, List.getElem_cons_succ, List.getElem_cons_zero, Act.put, List.setIfInBounds_toArray, List.set_cons_zero, List.set_cons_succ]
    refine wpAnyH_take (i := 57) (v := ?_) rfl (by kernel_rfl) (by kernel_rfl) (by kernel_rfl) (fun _ _ _ h => h) (Or.inl ⟨by rfl, ?_⟩) hHeld ?_
    rotate_left
    · (intro wS hSw; (try dsimp only at hSw); (try go_split_ands); go_simp; try with_reducible rfl)
    try simp only [List.getElem_toArray, List.getElem_cons_succ, List.getElem_cons_zero, Act.put, List.setIfInBounds_toArray, List.set_cons_zero, List.set_cons_succ]
    refine wpAnyH_take (i := 58) (v := ?_) rfl (by kernel_rfl) (by kernel_rfl) (by kernel_rfl) (fun _ _ _ h => h) (Or.inl ⟨by rfl, ?_⟩) hHeld ?_
    rotate_left
    · (intro wS hSw; (try dsimp only at hSw); (try go_split_ands); go_simp; try with_reducible rfl)
    try simp only [List.getElem_toArray, List.getElem_cons_succ, List.getElem_cons_zero, Act.put, List.setIfInBounds_toArray, List.set_cons_zero, List.set_cons_succ]
    refine wpAnyH_ready (rs := [56]) (by kernel_rfl) (by simp) ?_
    refine AllReadyH.cons rfl (fun K hK => ?_) AllReadyH.nil
    go_simp
    (with_reducible refine (ct1 _ (HZ4.out.below (fs_b (by assumption))) (HZ5.out.below (fs_b (by assumption)))).mono ?_); rintro e wn ⟨rfl, hb⟩
    refine hK.out _ _ ?_ (fun hNext => ?_)
    · exact fs_keep (by assumption) hb
    clear hK K hHeld
    have hHeld := hNext
    clear hNext
    try simp only [List.getElem_toArray, List.getElem_cons_succ, List.getElem_cons_zero, Act.put, List.setIfInBounds_toArray, List.set_cons_zero, List.set_cons_succ]
    refine wpAnyH_ready (rs := [59]) (by kernel_rfl) (by simp) ?_
    refine AllReadyH.cons rfl (fun K hK => ?_) AllReadyH.nil
    go_simp
    (with_reducible refine (ct2 _ (HZ4.out.below (fs_b (by assumption))) (HZ5.out.below (fs_b (by assumption)))).mono ?_); rintro e wn ⟨rfl, hb⟩
    refine hK.out _ _ ?_ (fun hNext => ?_)
    · exact fs_keep (by assumption) hb
    clear hK K hHeld
    have hHeld := hNext
    clear hNext
    try simp only [List.getElem_toArray, List.getElem_cons_succ, List.getElem_cons_zero, Act.put, List.setIfInBounds_toArray, List.set_cons_zero, List.set_cons_succ]
    refine wpAnyH_take (i := 60) (v := ?_) rfl (by kernel_rfl) (by kernel_rfl) (by kernel_rfl) (fun _ _ _ h => h) (Or.inl ⟨by rfl, ?_⟩) hHeld ?_
    rotate_left
    · (intro wS hSw; (try dsimp only at hSw); (try go_split_ands); go_simp; try with_reducible rfl)
    try simp only [List.getElem_toArray, List.getElem_cons_succ, List.getElem_cons_zero, Act.put, List.setIfInBounds_toArray, List.set_cons_zero, List.set_cons_succ]
    refine wpAnyH_take (i := 61) (v := ?_) rfl (by kernel_rfl) (by kernel_rfl) (by kernel_rfl) (fun _ _ _ h => h) (Or.inl ⟨by rfl, ?_⟩) hHeld ?_
    rotate_left
    · (intro wS hSw; (try dsimp only at hSw); (try go_split_ands); go_simp; try with_reducible rfl)
    try simp only [List.getElem_toArray, List.getElem_cons_succ, List.getElem_cons_zero, Act.put, List.setIfInBounds_toArray, List.set_cons_zero, List.set_cons_succ]
    refine wpAnyH_take (i := 62) (v := ?_) rfl (by kernel_rfl) (by kernel_rfl) (by kernel_rfl) (fun _ _ _ h => h) (Or.inl ⟨by rfl, ?_⟩) hHeld ?_
    rotate_left
    · (intro wS hSw; (try dsimp only at hSw); (try go_split_ands); go_simp; try with_reducible rfl)
    try simp only [List.getElem_toArray, List.getElem_cons_succ, List.getElem_cons_zero, Act.put, List.setIfInBounds_toArray, List.set_cons_zero, List.set_cons_succ]
    refine wpAnyH_ready (rs := [63]) (by kernel_rfl) (by simp) ?_
    refine AllReadyH.cons rfl (fun K hK => ?_) AllReadyH.nil
    go_simp
    (with_reducible refine (ca _ ).mono ?_); rintro e wn ⟨rfl, hb⟩
    refine hK.out _ _ ?_ (fun hNext => ?_)
    · exact fs_keep (by assumption) hb
    clear hK K hHeld
    have hHeld := hNext
    clear hNext
    try simp only [List.getElem_toArray, List.getElem_cons_succ, List.getElem_cons_zero, Act.put, List.setIfInBounds_toArray, List.set_cons_zero, List.set_cons_succ]
    refine wpAnyH_take (i := 64) (v := ?_) rfl (by kernel_rfl) (by kernel_rfl) (by kernel_rfl) (fun _ _ _ h => h) (Or.inl ⟨by rfl, ?_⟩) hHeld ?_
    rotate_left
    · (intro wS hSw; (try dsimp only at hSw); (try go_split_ands); go_simp; try with_reducible rfl)
    try simp only [List.getElem_toArray, List.getElem_cons_succ, List.getElem_cons_zero, Act.put, List.setIfInBounds_toArray, List.set_cons_zero, List.set_cons_succ]
    refine wpAnyH_take (i := 65) (v := ?_) rfl (by kernel_rfl) (by kernel_rfl) (by kernel_rfl) (fun _ _ _ h => h) (Or.inl ⟨by rfl, ?_⟩) hHeld ?_
    rotate_left
    · (intro wS hSw; (try dsimp only at hSw); (try go_split_ands); go_simp; try with_reducible rfl)
    try simp only [List.getElem_toArray, List.getElem_cons_succ, List.getElem_cons_zero, Act.put, List.setIfInBounds_toArray, List.set_cons_zero, List.set_cons_succ]
    refine wpAnyH_done (by kernel_rfl) ?_ _
    have hfin := fs_b (by assumption)
    go_wp2_with (fail)
    go_ret
    exact ⟨rfl, bel2 HB3.out hfin⟩

set_option maxRecDepth 100000 in
theorem lifted (os : Os) (started : os.Started) (H : Type) (enc : TypeId × Value → H) :
    ReturnsInHanded {} Try.checked os 3 .any (Rows.leafFormsSpec.pre6 enc Try.prog Try.f3 Rows.leafFormsRow.domain false) (Rows.leafFormsSpec.post enc Try.prog Try.f3 false true false false) := by
  refine returnsInHanded_of_change_sized (C := Try.checked) own started (by kernel_rfl) Try.func3
    (ChangeSpec.witness6 (enc := enc) (C := Try.checked) false ⟨#[], #[.slice none 0 0, .slice none 0 0, .agg #[.int .i64 0, .int .i64 0, .int .i64 0, .int .i64 0], .int .i64 0, .agg #[.int .i64 0, .bool false, .int .i64 0, .int .i64 0, .int .i64 0, .slice none 0 0], .agg #[.int .i64 0, .bool false, .int .i64 0, .int .i64 0, .int .i64 0, .slice none 0 0]], []⟩ 8 (by kernel_rfl) (by kernel_rfl) (by kernel_rfl) (by kernel_rfl)) ?_
  intro W base args ds gs before hval0 hW hcnd hsz _
  have hval : ∀ (j : Nat) t v, Try.f3.params[j]? = some t → args[j]? = some v → Value.okWide Try.prog W .any base t v := hval0
  have hW' := hW
  obtain ⟨p, q, hA0, hV, rfl, hfz, hnd⟩ := hW
  have hA : DataW.TrodAll enc Try.prog W 0 (fun _ => true) true Try.f3.params.toList args.toList ds p := hA0
  rw [Try.params3] at hA hval
  obtain ⟨v0, vs0, d0, ds0, p0, q0, hargs, rfl, rfl, h0, r0⟩ := trodAll_cons hA
  obtain ⟨v1, vs1, d1, ds1, p1, q1, rfl, rfl, rfl, h1, r1⟩ := trodAll_cons r0
  obtain ⟨v2, vs2, d2, ds2, p2, q2, rfl, rfl, rfl, h2, r2⟩ := trodAll_cons r1
  obtain ⟨v3, vs3, d3, ds3, p3, q3, rfl, rfl, rfl, h3, r3⟩ := trodAll_cons r2
  obtain ⟨v4, vs4, d4, ds4, p4, q4, rfl, rfl, rfl, h4, r4⟩ := trodAll_cons r3
  obtain ⟨v5, vs5, d5, ds5, p5, q5, rfl, rfl, rfl, h5, r5⟩ := trodAll_cons r4
  obtain ⟨rfl, rfl, rfl⟩ := trodAll_nil r5
  obtain rfl : args = #[v0, v1, v2, v3, v4, v5] := by cases args; simp_all
  obtain ⟨rfl, rfl⟩ := trodVars_none hV
  have k0 := h0
  have lt0 : ∀ x ∈ p0, x.block < W.heap.size := by obtain ⟨m, hm⟩ := k0; exact DataW.trod_lt m _ _ _ hm
  obtain ⟨b0, l0, c0, rfl⟩ := okWide_slice Try.underlying22 (hval 0 22 v0 rfl rfl)
  obtain ⟨a0, cap0, z0, e0, w0⟩ := open_pairs (enc := enc) (w := W) (v := .slice b0 l0 c0) (fuel := h0.choose) (by simpa [Value.cells] using h0.choose_spec)
  rw [e0] at hval k0 h0 hW' hval0 hA0
  have s0 := wt_pairs (enc := enc) (w := W) (fuel := h0.choose) (a := a0) (len := z0.length) (cap := cap0) (by simpa [Value.cells] using h0.choose_spec) (fun n hn => by simpa using List.all_eq_true.1 hsz n (DataW.weights_mem_each (j := 0) rfl rfl n hn))
  have k1 := h1
  have lt1 : ∀ x ∈ p1, x.block < W.heap.size := by obtain ⟨m, hm⟩ := k1; exact DataW.trod_lt m _ _ _ hm
  obtain ⟨b1, l1, c1, rfl⟩ := okWide_slice Try.underlying22 (hval 1 22 v1 rfl rfl)
  obtain ⟨a1, cap1, z1, e1, w1⟩ := open_pairs (enc := enc) (w := W) (v := .slice b1 l1 c1) (fuel := h1.choose) (by simpa [Value.cells] using h1.choose_spec)
  rw [e1] at hval k1 h1 hW' hval0 hA0
  have s1 := wt_pairs (enc := enc) (w := W) (fuel := h1.choose) (a := a1) (len := z1.length) (cap := cap1) (by simpa [Value.cells] using h1.choose_spec) (fun n hn => by simpa using List.all_eq_true.1 hsz n (DataW.weights_mem_each (j := 1) rfl rfl n hn))
  have k2 := h2
  have lt2 : ∀ x ∈ p2, x.block < W.heap.size := by obtain ⟨m, hm⟩ := k2; exact DataW.trod_lt m _ _ _ hm
  obtain ⟨u2, rfl, _⟩ := okWide_struct Try.underlying24 (hval 2 24 v2 rfl rfl)
  obtain ⟨o2, e2, w2⟩ := fields_op (enc := enc) (w := W) (cs := u2.toList) (fuel := h2.choose) (by simpa [Value.cells] using h2.choose_spec)
  obtain rfl : u2 = #[.int .i64 o2.c, .int .i64 o2.k, .int .i64 o2.h, .int .i64 o2.v] := by cases u2; simp_all
  have k3 := h3
  have lt3 : ∀ x ∈ p3, x.block < W.heap.size := by obtain ⟨m, hm⟩ := k3; exact DataW.trod_lt m _ _ _ hm
  obtain ⟨a3, rfl, rfl, rfl, w3⟩ := open_int Try.underlying3 (hval 3 3 v3 rfl rfl) h3
  have k4 := h4
  have lt4 : ∀ x ∈ p4, x.block < W.heap.size := by obtain ⟨m, hm⟩ := k4; exact DataW.trod_lt m _ _ _ hm
  obtain ⟨u4, rfl, _⟩ := okWide_struct Try.underlying29 (hval 4 29 v4 rfl rfl)
  obtain ⟨d4_, a4, cap4, e4, w4⟩ := fields_ans (enc := enc) (w := W) (cs := u4.toList) (fuel := h4.choose) (by simpa [Value.cells] using h4.choose_spec)
  have s4 := wt_ans (enc := enc) (w := W) (fuel := h4.choose) (x := (_, _)) (v0 := .int .i64 d4_.err) (v1 := .bool d4_.ok) (v2 := .int .i64 d4_.k) (v3 := .int .i64 d4_.v) (v4 := .int .i64 d4_.n) (a := a4) (len := d4_.ps.length) (cap := cap4) (by rw [← e4]; simpa [Value.cells] using h4.choose_spec) (fun n hn => by simpa using List.all_eq_true.1 hsz n (DataW.weights_mem_each (j := 4) rfl rfl n hn))
  obtain rfl : u4 = #[.int .i64 d4_.err, .bool d4_.ok, .int .i64 d4_.k, .int .i64 d4_.v, .int .i64 d4_.n, .slice a4 d4_.ps.length cap4] := by cases u4; simp_all
  have k5 := h5
  have lt5 : ∀ x ∈ p5, x.block < W.heap.size := by obtain ⟨m, hm⟩ := k5; exact DataW.trod_lt m _ _ _ hm
  obtain ⟨u5, rfl, _⟩ := okWide_struct Try.underlying29 (hval 5 29 v5 rfl rfl)
  obtain ⟨d5_, a5, cap5, e5, w5⟩ := fields_ans (enc := enc) (w := W) (cs := u5.toList) (fuel := h5.choose) (by simpa [Value.cells] using h5.choose_spec)
  have s5 := wt_ans (enc := enc) (w := W) (fuel := h5.choose) (x := (_, _)) (v0 := .int .i64 d5_.err) (v1 := .bool d5_.ok) (v2 := .int .i64 d5_.k) (v3 := .int .i64 d5_.v) (v4 := .int .i64 d5_.n) (a := a5) (len := d5_.ps.length) (cap := cap5) (by rw [← e5]; simpa [Value.cells] using h5.choose_spec) (fun n hn => by simpa using List.all_eq_true.1 hsz n (DataW.weights_mem_each (j := 5) rfl rfl n hn))
  obtain rfl : u5 = #[.int .i64 d5_.err, .bool d5_.ok, .int .i64 d5_.k, .int .i64 d5_.v, .int .i64 d5_.n, .slice a5 d5_.ps.length cap5] := by cases u5; simp_all
  clear hA0 hval0
  rw [e0]; rw [e1]; refine (walk a0 cap0 z0 a1 cap1 z1 o2 a3 d4_ a4 cap4 d5_ a5 cap5 W w0 s0 w1 s1 w2 w3 w4 s4 w5 s5).mono fun e W' ⟨he, bel⟩ => ?_
  subst he
  exact ⟨_, rfl, _, _, _, [], _, [], hW', trodAll_mk1 (shut_bool Try.underlying4 _), (trodAll_cons_mk (Below.trod laidOut (by kernel_rfl) (of_decide_eq_true (by kernel_rfl)) k0 bel lt0) (trodAll_cons_mk (Below.trod laidOut (by kernel_rfl) (of_decide_eq_true (by kernel_rfl)) k1 bel lt1) (trodAll_cons_mk (Below.trod laidOut (by kernel_rfl) (of_decide_eq_true (by kernel_rfl)) k2 bel lt2) (trodAll_cons_mk (Below.trod laidOut (by kernel_rfl) (of_decide_eq_true (by kernel_rfl)) k3 bel lt3) (trodAll_cons_mk (Below.trod laidOut (by kernel_rfl) (of_decide_eq_true (by kernel_rfl)) k4 bel lt4) (trodAll_cons_mk (Below.trod laidOut (by kernel_rfl) (of_decide_eq_true (by kernel_rfl)) k5 bel lt5) trodAll_mk0)))))), rfl, bel.frame _, fun h => by cases h⟩

theorem over : Rows.leafFormsRow.holds Try.pinned (OpenSpec.ofChange Rows.leafFormsSpec) :=
  OpenClaim.holds_of_wide 3 Try.f3 rfl rfl rfl rfl rfl rfl rfl ⟨rfl, rfl, rfl, rfl, rfl⟩ rfl rfl rfl rfl rfl (by kernel_rfl) Try.func3 (by kernel_rfl)
    (of_decide_eq_true (by kernel_rfl)) (by unfold Func.isWrapper; first | (rw [if_pos (by decide +kernel)]; kernel_rfl) | (rw [if_neg (by decide +kernel)]; exact ⟨rfl, rfl⟩))
    (fun os started H enc _ => lifted os started H enc)

theorem leafFormsHolds : Rows.LeafFormsSaid := over
#print axioms leafFormsHolds
end Go.Proofs.Ytipcjkfecppanaa.leafForms
