/- SoloOff (P17.2): under Off a tree of one leaf of stat nought stays one leaf of stat nought, whatever operations come (60 at most); what only reads one leaf changes nothing under any policy. No condition but that of the form. -/
import Derived.Test.YtpdliokpbnpppaaRows
import Derived.Test.YtpdliokpbnpppaaSlU
import Derived.Test.YtpdliokpbnpppaaPoG
import Derived.Test.YtpdliokpbnpppaaLfO
import Derived.Test.YtpdliokpbnpppaaTsC
import Derived.OwnWalk
import Derived.LoopTactic
import Derived.WalkKit
import Derived.ProofKit
import Derived.OpenShut
import Derived.ChangeOld
import Derived.Below
namespace Go.Proofs.Ytpdliokpbnpppaa.soloOff
open Go.ChangeShapes Go.WideShapes Go.ChangeAt Go.RowKit
set_option linter.all false

theorem own : ownKnob Try.prog.godebug = none := by kernel_rfl
theorem laidOut : laidOutB Try.prog = true := by kernel_rfl

set_option maxRecDepth 100000 in
set_option maxHeartbeats 12800000 in
theorem walk_long (a0 : Option Addr) (cap0 : Nat) (z0 : List OpD) (t1 : Int) (a1 : Option Addr) (cap1 : Nat) (N1 : List Nd) (h2 l2 c2 u2 m2 : Int) (o3 : OpD) (w : World) (w0 : Ops w a0 cap0 z0) (w1 : Ns w a1 cap1 N1) (s1 : Mid N1) (w3 : o3.wf) (hn : 60 < z0.length) :
    Calls Try.prog 3 #[.slice a0 z0.length cap0, .agg #[.int .i64 t1, .slice a1 N1.length cap1], .agg #[.int .i64 h2, .int .i64 l2, .int .i64 c2, .int .i64 u2, .int .i64 m2], .agg #[.int .i64 o3.c, .int .i64 o3.k, .int .i64 o3.h, .int .i64 o3.v]] w fun e w' => e = .returned (.bool true) ∧ Below w.heap.size w w' := by
  have K1 := Lib.hid (OB.new w t1 a1 N1.length cap1 h2 l2 c2 u2 m2 o3.c o3.k o3.h o3.v)
  have caw := fun W => sawake_any W
  have hn2 : decide ((60 : Int) < (z0.length : Int)) = true := decide_eq_true (by omega)
  clear w0 w1 s1 w3
  go_enter Try.func3, Try.ntmps3
  go_wp2_with (go_at_call 8; ((with_reducible refine (caw _).mono ?_); clear caw; rintro e WA ⟨rfl, hbA⟩; have HA := Lib.hid (bel2 K1.out.b hbA); clear hbA))
  go_ret
  exact ⟨rfl, HA.out⟩
set_option maxRecDepth 100000 in
set_option maxHeartbeats 12800000 in
theorem walk_big (a0 : Option Addr) (cap0 : Nat) (z0 : List OpD) (t1 : Int) (a1 : Option Addr) (cap1 : Nat) (N1 : List Nd) (h2 l2 c2 u2 m2 : Int) (o3 : OpD) (w : World) (w0 : Ops w a0 cap0 z0) (w1 : Ns w a1 cap1 N1) (s1 : Mid N1) (w3 : o3.wf) (hn : ¬ 60 < z0.length) (hL : ¬ Lgt N1) :
    Calls Try.prog 3 #[.slice a0 z0.length cap0, .agg #[.int .i64 t1, .slice a1 N1.length cap1], .agg #[.int .i64 h2, .int .i64 l2, .int .i64 c2, .int .i64 u2, .int .i64 m2], .agg #[.int .i64 o3.c, .int .i64 o3.k, .int .i64 o3.h, .int .i64 o3.v]] w fun e w' => e = .returned (.bool true) ∧ Below w.heap.size w w' := by
  have K1 := Lib.hid (OB.new w t1 a1 N1.length cap1 h2 l2 c2 u2 m2 o3.c o3.k o3.h o3.v)
  have caw := fun W => sawake_any W
  have hn2 : decide ((60 : Int) < (z0.length : Int)) = false := decide_eq_false (by omega)
  have cl := fun W (hb : Below w.heap.size w W) => light_any t1 a1 cap1 N1 W (w1.keep hb) s1 1 (fun h => absurd h hL) (fun _ => rfl)
  unfold trv at cl
  clear w0 w1 s1 w3 hL
  have hK := Lib.hid True.intro
  have g0 := K1.out.g.at_ 0 _ rfl
  have g1 := K1.out.g.at_ 1 _ rfl
  go_enter Try.func3, Try.ntmps3
  go_wp2_with (first
    | (go_at_call 7; ((with_reducible refine (cl _ K1.out.b).mono ?_); clear cl; rintro e W3 ⟨rfl, hb3⟩; have K3 := Lib.hid (K1.out.keep hb3); clear hb3 g0 g1))
    | (go_at_call 8; ((with_reducible refine (caw _).mono ?_); clear caw; rintro e WA ⟨rfl, hbA⟩; have HA := Lib.hid (bel2 K3.out.b hbA); clear hbA))
    | fail)
  go_ret
  exact ⟨rfl, HA.out⟩
set_option maxRecDepth 100000 in
set_option maxHeartbeats 12800000 in
theorem walk_rest (a0 : Option Addr) (cap0 : Nat) (z0 : List OpD) (t1 : Int) (a1 : Option Addr) (cap1 : Nat) (N1 : List Nd) (h2 l2 c2 u2 m2 : Int) (o3 : OpD) (w : World) (w0 : Ops w a0 cap0 z0) (w1 : Ns w a1 cap1 N1) (s1 : Mid N1) (w3 : o3.wf) (hn : ¬ 60 < z0.length) (hL : Lgt N1) (hc : ¬ (o3.c = 4 ∨ o3.c = 7 ∨ o3.c = 8)) :
    Calls Try.prog 3 #[.slice a0 z0.length cap0, .agg #[.int .i64 t1, .slice a1 N1.length cap1], .agg #[.int .i64 h2, .int .i64 l2, .int .i64 c2, .int .i64 u2, .int .i64 m2], .agg #[.int .i64 o3.c, .int .i64 o3.k, .int .i64 o3.h, .int .i64 o3.v]] w fun e w' => e = .returned (.bool true) ∧ Below w.heap.size w w' := by
  have K1 := Lib.hid (OB.new w t1 a1 N1.length cap1 h2 l2 c2 u2 m2 o3.c o3.k o3.h o3.v)
  have caw := fun W => sawake_any W
  have hn2 : decide ((60 : Int) < (z0.length : Int)) = false := decide_eq_false (by omega)
  have cl := fun W (hb : Below w.heap.size w W) => light_any t1 a1 cap1 N1 W (w1.keep hb) s1 0 (fun _ => rfl) (fun h => absurd hL h)
  obtain ⟨f, f0, hf⟩ := chn_ex (h := 100000) (l := -100000) (cc := 0) (u := 0) (m := 0) z0 aw_t0
  obtain ⟨hl1, hs0⟩ := off_chn hf f0 z0.length (Nat.le_refl _)
  have cr := fun (W : World) (a : Option Addr) (cp : Nat) (hW : Below w.heap.size w W) (hN : Ns W a cp (oneN [])) => srun_one a cp 100000 (-100000) 0 0 0 100000 (-100000) 0 0 0 a0 cap0 z0 W hN (w0.below hW) (by omega) (by decide) f f0 hf
  unfold RnIs at cr
  rw [runA_len, hl1] at cr
  have co := fun W => tone_any none 0 [] W (Prs.nil _) (by simp) [] (by simp)
  unfold TnIs at co
  have l1 : (oneN []).length = 1 := rfl
  simp only [l1, List.length_nil] at co
  have HF := Lib.hid (And.intro hl1 hs0)
  have hs := hL.small
  have e4 : (o3.c == 4) = false := by simp; omega
  have e7 : (o3.c == 7) = false := by simp; omega
  have e8 : (o3.c == 8) = false := by simp; omega
  unfold trv at cl
  clear w0 w1 s1 w3 hL hf hs0 hl1 f0 hs hc
  have hK := Lib.hid True.intro
  have g0 := K1.out.g.at_ 0 _ rfl
  have g1 := K1.out.g.at_ 1 _ rfl
  go_enter Try.func3, Try.ntmps3
  go_wp2_with (first
    | (go_at_call 7; ((with_reducible refine (cl _ K1.out.b).mono ?_); clear cl; rintro e W3 ⟨rfl, hb3⟩; have K3 := Lib.hid (K1.out.keep hb3); clear hb3 g0 g1))
    | (go_at_call 10; ((with_reducible refine (co _).mono ?_); clear co; rintro e W4 ⟨a4, c4, rfl, hn4, hb4⟩; have N4 := Lib.hid hn4; have K4 := Lib.hid (K3.out.keep hb4); clear hn4 hb4))
    | (go_at_call 11; ((with_reducible refine (off_any _).mono ?_); rintro e W5 ⟨rfl, hb5⟩; have N5 := Lib.hid (N4.out.keep hb5); have K5 := Lib.hid (K4.out.keep hb5); clear hb5))
    | (go_at_call 9; ((with_reducible refine (cr _ _ _ K5.out.b N5.out).mono ?_); clear cr; rintro e W6 ⟨a6, c6, g6, rfl, hn6, -, -, hb6⟩; have K6 := Lib.hid ((K5.out.keep hb6).keep (al1 (.cells #[.int .i64 0, .slice a6 1 c6] 25))); have U6 := Lib.hid (Bk.new W6 #[.int .i64 0, .slice a6 1 c6] 25); have hns := hn6.ns.keep (al1 (.cells #[.int .i64 0, .slice a6 1 c6] 25)); obtain ⟨b6, o6, pa6, pc6, rfl, hna⟩ := hns.2.2 0 _ (nd_get (by rw [HF.out.1]; decide)); have x5 := hna.c5; rw [HF.out.2] at x5; simp only [Nat.zero_mul, Nat.add_zero] at x5; have hc61 := hns.1; have hc62 := hns.2.1; rw [HF.out.1] at hc61; unfold maxLen at hc62; have hc63 : (0 : Int) < 1 := (by decide); have HX := Lib.hid (And.intro hc61 hc62); clear hc61 hc62 hn6 hb6 hns hna; have u0 := U6.out.at_ 0 _ rfl; have u1 := U6.out.at_ 1 _ rfl; have o0 := K6.out.o.at_ 0 _ rfl; have o1 := K6.out.o.at_ 1 _ rfl; have o2 := K6.out.o.at_ 2 _ rfl; have o3x := K6.out.o.at_ 3 _ rfl))
    | (go_at_call 8; ((with_reducible refine (caw _).mono ?_); clear caw; rintro e WA ⟨rfl, hbA⟩; have HA := Lib.hid (bel2 K6.out.b hbA); clear hbA))
    | fail)
  go_ret
  exact ⟨rfl, HA.out⟩
set_option maxRecDepth 100000 in
set_option maxHeartbeats 12800000 in
theorem walk_none4 (a0 : Option Addr) (cap0 : Nat) (z0 : List OpD) (t1 : Int) (a1 : Option Addr) (cap1 : Nat) (N1 : List Nd) (h2 l2 c2 u2 m2 : Int) (o3 : OpD) (w : World) (w0 : Ops w a0 cap0 z0) (w1 : Ns w a1 cap1 N1) (s1 : Mid N1) (w3 : o3.wf) (hn : ¬ 60 < z0.length) (hL : Lgt N1) (hc : o3.c = 4) (hT : ∀ s, ¬ Tr N1 s t1) :
    Calls Try.prog 3 #[.slice a0 z0.length cap0, .agg #[.int .i64 t1, .slice a1 N1.length cap1], .agg #[.int .i64 h2, .int .i64 l2, .int .i64 c2, .int .i64 u2, .int .i64 m2], .agg #[.int .i64 o3.c, .int .i64 o3.k, .int .i64 o3.h, .int .i64 o3.v]] w fun e w' => e = .returned (.bool true) ∧ Below w.heap.size w w' := by
  have K1 := Lib.hid (OB.new w t1 a1 N1.length cap1 h2 l2 c2 u2 m2 o3.c o3.k o3.h o3.v)
  have caw := fun W => sawake_any W
  have hn2 : decide ((60 : Int) < (z0.length : Int)) = false := decide_eq_false (by omega)
  have cl := fun W (hb : Below w.heap.size w W) => light_any t1 a1 cap1 N1 W (w1.keep hb) s1 0 (fun _ => rfl) (fun h => absurd hL h)
  obtain ⟨f, f0, hf⟩ := chn_ex (h := 100000) (l := -100000) (cc := 0) (u := 0) (m := 0) z0 aw_t0
  obtain ⟨hl1, hs0⟩ := off_chn hf f0 z0.length (Nat.le_refl _)
  have cr := fun (W : World) (a : Option Addr) (cp : Nat) (hW : Below w.heap.size w W) (hN : Ns W a cp (oneN [])) => srun_one a cp 100000 (-100000) 0 0 0 100000 (-100000) 0 0 0 a0 cap0 z0 W hN (w0.below hW) (by omega) (by decide) f f0 hf
  unfold RnIs at cr
  rw [runA_len, hl1] at cr
  have co := fun W => tone_any none 0 [] W (Prs.nil _) (by simp) [] (by simp)
  unfold TnIs at co
  have l1 : (oneN []).length = 1 := rfl
  simp only [l1, List.length_nil] at co
  have HF := Lib.hid (And.intro hl1 hs0)
  have hs := hL.small
  have e4 : (o3.c == 4) = true := by rw [hc]; rfl
  have e7 : (o3.c == 7) = false := by simp; omega
  have e8 : (o3.c == 8) = false := by simp; omega
  have cm := fun W (hb : Below w.heap.size w W) => tmay_any t1 a1 cap1 N1 W (w1.keep hb) hs false ⟨fun h => (by cases h), fun ⟨s, hs⟩ => absurd hs (hT s)⟩
  have cd := fun W (hb : Below w.heap.size w W) => sdo_no t1 a1 cap1 N1 h2 l2 c2 u2 m2 o3 W (w1.keep hb) hs hT
  unfold SoIs Ad.val at cd
  unfold trv polv opv at cd
  dsimp only at cd
  unfold trv at cm
  unfold trv at cl
  clear w0 w1 s1 w3 hL hf hs0 hl1 f0 hT hs hc
  have hK := Lib.hid True.intro
  have g0 := K1.out.g.at_ 0 _ rfl
  have g1 := K1.out.g.at_ 1 _ rfl
  go_enter Try.func3, Try.ntmps3
  go_wp2_with (first
    | (go_at_call 7; ((with_reducible refine (cl _ K1.out.b).mono ?_); clear cl; rintro e W3 ⟨rfl, hb3⟩; have K3 := Lib.hid (K1.out.keep hb3); clear hb3 g0 g1))
    | (go_at_call 10; ((with_reducible refine (co _).mono ?_); clear co; rintro e W4 ⟨a4, c4, rfl, hn4, hb4⟩; have N4 := Lib.hid hn4; have K4 := Lib.hid (K3.out.keep hb4); clear hn4 hb4))
    | (go_at_call 11; ((with_reducible refine (off_any _).mono ?_); rintro e W5 ⟨rfl, hb5⟩; have N5 := Lib.hid (N4.out.keep hb5); have K5 := Lib.hid (K4.out.keep hb5); clear hb5))
    | (go_at_call 9; ((with_reducible refine (cr _ _ _ K5.out.b N5.out).mono ?_); clear cr; rintro e W6 ⟨a6, c6, g6, rfl, hn6, -, -, hb6⟩; have K6 := Lib.hid ((K5.out.keep hb6).keep (al1 (.cells #[.int .i64 0, .slice a6 1 c6] 25))); have U6 := Lib.hid (Bk.new W6 #[.int .i64 0, .slice a6 1 c6] 25); have hns := hn6.ns.keep (al1 (.cells #[.int .i64 0, .slice a6 1 c6] 25)); obtain ⟨b6, o6, pa6, pc6, rfl, hna⟩ := hns.2.2 0 _ (nd_get (by rw [HF.out.1]; decide)); have x5 := hna.c5; rw [HF.out.2] at x5; simp only [Nat.zero_mul, Nat.add_zero] at x5; have hc61 := hns.1; have hc62 := hns.2.1; rw [HF.out.1] at hc61; unfold maxLen at hc62; have hc63 : (0 : Int) < 1 := (by decide); have HX := Lib.hid (And.intro hc61 hc62); clear hc61 hc62 hn6 hb6 hns hna; have u0 := U6.out.at_ 0 _ rfl; have u1 := U6.out.at_ 1 _ rfl; have o0 := K6.out.o.at_ 0 _ rfl; have o1 := K6.out.o.at_ 1 _ rfl; have o2 := K6.out.o.at_ 2 _ rfl; have o3x := K6.out.o.at_ 3 _ rfl; have g0 := K6.out.g.at_ 0 _ rfl; have g1 := K6.out.g.at_ 1 _ rfl; have p0 := K6.out.p.at_ 0 _ rfl; have p1 := K6.out.p.at_ 1 _ rfl; have p2 := K6.out.p.at_ 2 _ rfl; have p3 := K6.out.p.at_ 3 _ rfl; have p4 := K6.out.p.at_ 4 _ rfl))
    | (go_at_call 12; ((with_reducible refine (cd _ K6.out.b).mono ?_); clear cd u0 u1 x5 g0 g1 p0 p1 p2 p3 p4 o0 o1 o2 o3x; rintro e W7 ⟨ax, cx, a7, c7, rfl, hnx, -, hb7⟩; have K8 := Lib.hid (((K6.out.keep hb7).keep (al1 (.cells #[.int .i64 0, .slice ax 0 cx] 25))).keep (al1 (.cells #[.int .i64 1, .bool false, .int .i64 0, .int .i64 0, .int .i64 0, .slice a7 0 c7] 44))); have N8 := Lib.hid ((hnx.keep (al1 (.cells #[.int .i64 0, .slice ax 0 cx] 25))).keep (al1 (.cells #[.int .i64 1, .bool false, .int .i64 0, .int .i64 0, .int .i64 0, .slice a7 0 c7] 44))); have X8 := Lib.hid ((Bk.new W7 #[.int .i64 0, .slice ax 0 cx] 25).past (.cells #[.int .i64 1, .bool false, .int .i64 0, .int .i64 0, .int .i64 0, .slice a7 0 c7] 44)); clear hb7 hnx; have g0 := K8.out.g.at_ 0 _ rfl; have g1 := K8.out.g.at_ 1 _ rfl; have x0 := X8.out.at_ 0 _ rfl; have x1 := X8.out.at_ 1 _ rfl))
    | (go_at_call 13; ((with_reducible refine (cm _ K8.out.b).mono ?_); clear cm g0 g1 x0 x1; rintro e W9 ⟨rfl, hb9⟩; have K9 := Lib.hid (K8.out.keep hb9); have N9 := Lib.hid (N8.out.keep hb9); have X9 := Lib.hid (X8.out.keep hb9); clear hb9; have g0 := K9.out.g.at_ 0 _ rfl; have g1 := K9.out.g.at_ 1 _ rfl; have x0 := X9.out.at_ 0 _ rfl; have x1 := X9.out.at_ 1 _ rfl))
    | (go_at_call 8; ((with_reducible refine (caw _).mono ?_); clear caw; rintro e WA ⟨rfl, hbA⟩; have HA := Lib.hid (bel2 K9.out.b hbA); clear hbA))
    | fail)
  go_ret
  exact ⟨rfl, HA.out⟩
set_option maxRecDepth 100000 in
set_option maxHeartbeats 12800000 in
theorem walk_get4 (a0 : Option Addr) (cap0 : Nat) (z0 : List OpD) (t1 : Int) (a1 : Option Addr) (cap1 : Nat) (N1 : List Nd) (h2 l2 c2 u2 m2 : Int) (o3 : OpD) (w : World) (w0 : Ops w a0 cap0 z0) (w1 : Ns w a1 cap1 N1) (s1 : Mid N1) (w3 : o3.wf) (hn : ¬ 60 < z0.length) (hL : Lgt N1) (hc : o3.c = 4) (s : Sh) (hT : Tr N1 s t1) :
    Calls Try.prog 3 #[.slice a0 z0.length cap0, .agg #[.int .i64 t1, .slice a1 N1.length cap1], .agg #[.int .i64 h2, .int .i64 l2, .int .i64 c2, .int .i64 u2, .int .i64 m2], .agg #[.int .i64 o3.c, .int .i64 o3.k, .int .i64 o3.h, .int .i64 o3.v]] w fun e w' => e = .returned (.bool true) ∧ Below w.heap.size w w' := by
  have K1 := Lib.hid (OB.new w t1 a1 N1.length cap1 h2 l2 c2 u2 m2 o3.c o3.k o3.h o3.v)
  have caw := fun W => sawake_any W
  have hn2 : decide ((60 : Int) < (z0.length : Int)) = false := decide_eq_false (by omega)
  have cl := fun W (hb : Below w.heap.size w W) => light_any t1 a1 cap1 N1 W (w1.keep hb) s1 0 (fun _ => rfl) (fun h => absurd hL h)
  obtain ⟨f, f0, hf⟩ := chn_ex (h := 100000) (l := -100000) (cc := 0) (u := 0) (m := 0) z0 aw_t0
  obtain ⟨hl1, hs0⟩ := off_chn hf f0 z0.length (Nat.le_refl _)
  have cr := fun (W : World) (a : Option Addr) (cp : Nat) (hW : Below w.heap.size w W) (hN : Ns W a cp (oneN [])) => srun_one a cp 100000 (-100000) 0 0 0 100000 (-100000) 0 0 0 a0 cap0 z0 W hN (w0.below hW) (by omega) (by decide) f f0 hf
  unfold RnIs at cr
  rw [runA_len, hl1] at cr
  have co := fun W => tone_any none 0 [] W (Prs.nil _) (by simp) [] (by simp)
  unfold TnIs at co
  have l1 : (oneN []).length = 1 := rfl
  simp only [l1, List.length_nil] at co
  have HF := Lib.hid (And.intro hl1 hs0)
  have hs := hL.small
  have e4 : (o3.c == 4) = true := by rw [hc]; rfl
  have e7 : (o3.c == 7) = false := by simp; omega
  have e8 : (o3.c == 8) = false := by simp; omega
  have cm := fun W (hb : Below w.heap.size w W) => tmay_any t1 a1 cap1 N1 W (w1.keep hb) hs true ⟨fun _ => ⟨s, hT⟩, fun _ => rfl⟩
  have hD : DoS N1 s (wi 1 h2 100000) (wi (-100000) l2 0) (wi (-100000) c2 100000) (wi (-100000) u2 100000) (wi (-100000) m2 100000) o3 (lay N1 s 0) := doS_read (by omega)
  have hl := hL.1
  have htot := lgt_total hT hL
  have cd := fun W (hb : Below w.heap.size w W) => sdo_any t1 a1 cap1 N1 h2 l2 c2 u2 m2 _ _ _ _ _ o3 w3 W (w1.keep hb) hs s hT (by omega) (by omega) ⟨rfl, rfl, rfl, rfl, rfl⟩ _ hD
  have hlay := lay_plain hT
  have htr := (lay_tr hT).1
  have cs := fun (W : World) (ax : Option Addr) (cx : Nat) (hb : Below w.heap.size w W) (hX : Ns W ax cx (lay N1 s 0)) => tsame_any 0 t1 ax a1 cx cap1 (lay N1 s 0) N1 W hX (w1.keep hb) (lay_small hT hs) hs true true (lay N1 s 0) (lay N1 s 0) (.inl ⟨_, htr, rfl, hlay.symm⟩) (.inl ⟨s, hT, rfl, rfl⟩) true ⟨fun _ => ⟨rfl, rfl, rfl⟩, fun _ => rfl⟩
  have hql : (lay N1 s 0).length = N1.length := by rw [lay_len, hT.all]
  unfold SoIs Ad.val at cd
  unfold trv polv opv at cd
  unfold trv at cs
  simp only [hql] at cs
  generalize doA (allP N1 s.lvs) o3.c o3.k o3.h = D at cd
  obtain ⟨d0, d1, d2, d3, d4, dp⟩ := D
  dsimp only at cd
  unfold trv at cm
  unfold trv at cl
  clear w0 w1 s1 w3 hL hf hs0 hl1 f0 hT hD htot hlay htr hs hc
  have hK := Lib.hid True.intro
  have g0 := K1.out.g.at_ 0 _ rfl
  have g1 := K1.out.g.at_ 1 _ rfl
  go_enter Try.func3, Try.ntmps3
  go_wp2_with (first
    | (go_at_call 7; ((with_reducible refine (cl _ K1.out.b).mono ?_); clear cl; rintro e W3 ⟨rfl, hb3⟩; have K3 := Lib.hid (K1.out.keep hb3); clear hb3 g0 g1))
    | (go_at_call 10; ((with_reducible refine (co _).mono ?_); clear co; rintro e W4 ⟨a4, c4, rfl, hn4, hb4⟩; have N4 := Lib.hid hn4; have K4 := Lib.hid (K3.out.keep hb4); clear hn4 hb4))
    | (go_at_call 11; ((with_reducible refine (off_any _).mono ?_); rintro e W5 ⟨rfl, hb5⟩; have N5 := Lib.hid (N4.out.keep hb5); have K5 := Lib.hid (K4.out.keep hb5); clear hb5))
    | (go_at_call 9; ((with_reducible refine (cr _ _ _ K5.out.b N5.out).mono ?_); clear cr; rintro e W6 ⟨a6, c6, g6, rfl, hn6, -, -, hb6⟩; have K6 := Lib.hid ((K5.out.keep hb6).keep (al1 (.cells #[.int .i64 0, .slice a6 1 c6] 25))); have U6 := Lib.hid (Bk.new W6 #[.int .i64 0, .slice a6 1 c6] 25); have hns := hn6.ns.keep (al1 (.cells #[.int .i64 0, .slice a6 1 c6] 25)); obtain ⟨b6, o6, pa6, pc6, rfl, hna⟩ := hns.2.2 0 _ (nd_get (by rw [HF.out.1]; decide)); have x5 := hna.c5; rw [HF.out.2] at x5; simp only [Nat.zero_mul, Nat.add_zero] at x5; have hc61 := hns.1; have hc62 := hns.2.1; rw [HF.out.1] at hc61; unfold maxLen at hc62; have hc63 : (0 : Int) < 1 := (by decide); have HX := Lib.hid (And.intro hc61 hc62); clear hc61 hc62 hn6 hb6 hns hna; have u0 := U6.out.at_ 0 _ rfl; have u1 := U6.out.at_ 1 _ rfl; have o0 := K6.out.o.at_ 0 _ rfl; have o1 := K6.out.o.at_ 1 _ rfl; have o2 := K6.out.o.at_ 2 _ rfl; have o3x := K6.out.o.at_ 3 _ rfl; have g0 := K6.out.g.at_ 0 _ rfl; have g1 := K6.out.g.at_ 1 _ rfl; have p0 := K6.out.p.at_ 0 _ rfl; have p1 := K6.out.p.at_ 1 _ rfl; have p2 := K6.out.p.at_ 2 _ rfl; have p3 := K6.out.p.at_ 3 _ rfl; have p4 := K6.out.p.at_ 4 _ rfl))
    | (go_at_call 12; ((with_reducible refine (cd _ K6.out.b).mono ?_); clear cd u0 u1 x5 g0 g1 p0 p1 p2 p3 p4 o0 o1 o2 o3x; rintro e W7 ⟨ax, cx, a7, c7, rfl, hnx, -, hb7⟩; have K8 := Lib.hid (((K6.out.keep hb7).keep (al1 (.cells #[.int .i64 0, .slice ax N1.length cx] 25))).keep (al1 (.cells #[.int .i64 d0, .bool d1, .int .i64 d2, .int .i64 d3, .int .i64 d4, .slice a7 dp.length c7] 44))); have N8 := Lib.hid ((hnx.keep (al1 (.cells #[.int .i64 0, .slice ax N1.length cx] 25))).keep (al1 (.cells #[.int .i64 d0, .bool d1, .int .i64 d2, .int .i64 d3, .int .i64 d4, .slice a7 dp.length c7] 44))); have X8 := Lib.hid ((Bk.new W7 #[.int .i64 0, .slice ax N1.length cx] 25).past (.cells #[.int .i64 d0, .bool d1, .int .i64 d2, .int .i64 d3, .int .i64 d4, .slice a7 dp.length c7] 44)); clear hb7 hnx; have g0 := K8.out.g.at_ 0 _ rfl; have g1 := K8.out.g.at_ 1 _ rfl; have x0 := X8.out.at_ 0 _ rfl; have x1 := X8.out.at_ 1 _ rfl))
    | (go_at_call 13; ((with_reducible refine (cm _ K8.out.b).mono ?_); clear cm g0 g1 x0 x1; rintro e W9 ⟨rfl, hb9⟩; have K9 := Lib.hid (K8.out.keep hb9); have N9 := Lib.hid (N8.out.keep hb9); have X9 := Lib.hid (X8.out.keep hb9); clear hb9; have g0 := K9.out.g.at_ 0 _ rfl; have g1 := K9.out.g.at_ 1 _ rfl; have x0 := X9.out.at_ 0 _ rfl; have x1 := X9.out.at_ 1 _ rfl))
    | (go_at_call 14; ((with_reducible refine (cs _ _ _ K9.out.b N9.out).mono ?_); clear cs g0 g1 x0 x1; rintro e W10 ⟨rfl, hb10⟩; have K10 := Lib.hid (K9.out.keep hb10); clear hb10))
    | (go_at_call 8; ((with_reducible refine (caw _).mono ?_); clear caw; rintro e WA ⟨rfl, hbA⟩; have HA := Lib.hid (bel2 K10.out.b hbA); clear hbA))
    | fail)
  go_ret
  exact ⟨rfl, HA.out⟩
set_option maxRecDepth 100000 in
set_option maxHeartbeats 12800000 in
theorem walk_none7 (a0 : Option Addr) (cap0 : Nat) (z0 : List OpD) (t1 : Int) (a1 : Option Addr) (cap1 : Nat) (N1 : List Nd) (h2 l2 c2 u2 m2 : Int) (o3 : OpD) (w : World) (w0 : Ops w a0 cap0 z0) (w1 : Ns w a1 cap1 N1) (s1 : Mid N1) (w3 : o3.wf) (hn : ¬ 60 < z0.length) (hL : Lgt N1) (hc : o3.c = 7) (hT : ∀ s, ¬ Tr N1 s t1) :
    Calls Try.prog 3 #[.slice a0 z0.length cap0, .agg #[.int .i64 t1, .slice a1 N1.length cap1], .agg #[.int .i64 h2, .int .i64 l2, .int .i64 c2, .int .i64 u2, .int .i64 m2], .agg #[.int .i64 o3.c, .int .i64 o3.k, .int .i64 o3.h, .int .i64 o3.v]] w fun e w' => e = .returned (.bool true) ∧ Below w.heap.size w w' := by
  have K1 := Lib.hid (OB.new w t1 a1 N1.length cap1 h2 l2 c2 u2 m2 o3.c o3.k o3.h o3.v)
  have caw := fun W => sawake_any W
  have hn2 : decide ((60 : Int) < (z0.length : Int)) = false := decide_eq_false (by omega)
  have cl := fun W (hb : Below w.heap.size w W) => light_any t1 a1 cap1 N1 W (w1.keep hb) s1 0 (fun _ => rfl) (fun h => absurd hL h)
  obtain ⟨f, f0, hf⟩ := chn_ex (h := 100000) (l := -100000) (cc := 0) (u := 0) (m := 0) z0 aw_t0
  obtain ⟨hl1, hs0⟩ := off_chn hf f0 z0.length (Nat.le_refl _)
  have cr := fun (W : World) (a : Option Addr) (cp : Nat) (hW : Below w.heap.size w W) (hN : Ns W a cp (oneN [])) => srun_one a cp 100000 (-100000) 0 0 0 100000 (-100000) 0 0 0 a0 cap0 z0 W hN (w0.below hW) (by omega) (by decide) f f0 hf
  unfold RnIs at cr
  rw [runA_len, hl1] at cr
  have co := fun W => tone_any none 0 [] W (Prs.nil _) (by simp) [] (by simp)
  unfold TnIs at co
  have l1 : (oneN []).length = 1 := rfl
  simp only [l1, List.length_nil] at co
  have HF := Lib.hid (And.intro hl1 hs0)
  have hs := hL.small
  have e4 : (o3.c == 4) = false := by simp; omega
  have e7 : (o3.c == 7) = true := by rw [hc]; rfl
  have e8 : (o3.c == 8) = false := by simp; omega
  have cm := fun W (hb : Below w.heap.size w W) => tmay_any t1 a1 cap1 N1 W (w1.keep hb) hs false ⟨fun h => (by cases h), fun ⟨s, hs⟩ => absurd hs (hT s)⟩
  have cd := fun W (hb : Below w.heap.size w W) => sdo_no t1 a1 cap1 N1 h2 l2 c2 u2 m2 o3 W (w1.keep hb) hs hT
  unfold SoIs Ad.val at cd
  unfold trv polv opv at cd
  dsimp only at cd
  unfold trv at cm
  unfold trv at cl
  clear w0 w1 s1 w3 hL hf hs0 hl1 f0 hT hs hc
  have hK := Lib.hid True.intro
  have g0 := K1.out.g.at_ 0 _ rfl
  have g1 := K1.out.g.at_ 1 _ rfl
  go_enter Try.func3, Try.ntmps3
  go_wp2_with (first
    | (go_at_call 7; ((with_reducible refine (cl _ K1.out.b).mono ?_); clear cl; rintro e W3 ⟨rfl, hb3⟩; have K3 := Lib.hid (K1.out.keep hb3); clear hb3 g0 g1))
    | (go_at_call 10; ((with_reducible refine (co _).mono ?_); clear co; rintro e W4 ⟨a4, c4, rfl, hn4, hb4⟩; have N4 := Lib.hid hn4; have K4 := Lib.hid (K3.out.keep hb4); clear hn4 hb4))
    | (go_at_call 11; ((with_reducible refine (off_any _).mono ?_); rintro e W5 ⟨rfl, hb5⟩; have N5 := Lib.hid (N4.out.keep hb5); have K5 := Lib.hid (K4.out.keep hb5); clear hb5))
    | (go_at_call 9; ((with_reducible refine (cr _ _ _ K5.out.b N5.out).mono ?_); clear cr; rintro e W6 ⟨a6, c6, g6, rfl, hn6, -, -, hb6⟩; have K6 := Lib.hid ((K5.out.keep hb6).keep (al1 (.cells #[.int .i64 0, .slice a6 1 c6] 25))); have U6 := Lib.hid (Bk.new W6 #[.int .i64 0, .slice a6 1 c6] 25); have hns := hn6.ns.keep (al1 (.cells #[.int .i64 0, .slice a6 1 c6] 25)); obtain ⟨b6, o6, pa6, pc6, rfl, hna⟩ := hns.2.2 0 _ (nd_get (by rw [HF.out.1]; decide)); have x5 := hna.c5; rw [HF.out.2] at x5; simp only [Nat.zero_mul, Nat.add_zero] at x5; have hc61 := hns.1; have hc62 := hns.2.1; rw [HF.out.1] at hc61; unfold maxLen at hc62; have hc63 : (0 : Int) < 1 := (by decide); have HX := Lib.hid (And.intro hc61 hc62); clear hc61 hc62 hn6 hb6 hns hna; have u0 := U6.out.at_ 0 _ rfl; have u1 := U6.out.at_ 1 _ rfl; have o0 := K6.out.o.at_ 0 _ rfl; have o1 := K6.out.o.at_ 1 _ rfl; have o2 := K6.out.o.at_ 2 _ rfl; have o3x := K6.out.o.at_ 3 _ rfl; have g0 := K6.out.g.at_ 0 _ rfl; have g1 := K6.out.g.at_ 1 _ rfl; have p0 := K6.out.p.at_ 0 _ rfl; have p1 := K6.out.p.at_ 1 _ rfl; have p2 := K6.out.p.at_ 2 _ rfl; have p3 := K6.out.p.at_ 3 _ rfl; have p4 := K6.out.p.at_ 4 _ rfl))
    | (go_at_call 12; ((with_reducible refine (cd _ K6.out.b).mono ?_); clear cd u0 u1 x5 g0 g1 p0 p1 p2 p3 p4 o0 o1 o2 o3x; rintro e W7 ⟨ax, cx, a7, c7, rfl, hnx, -, hb7⟩; have K8 := Lib.hid (((K6.out.keep hb7).keep (al1 (.cells #[.int .i64 0, .slice ax 0 cx] 25))).keep (al1 (.cells #[.int .i64 1, .bool false, .int .i64 0, .int .i64 0, .int .i64 0, .slice a7 0 c7] 44))); have N8 := Lib.hid ((hnx.keep (al1 (.cells #[.int .i64 0, .slice ax 0 cx] 25))).keep (al1 (.cells #[.int .i64 1, .bool false, .int .i64 0, .int .i64 0, .int .i64 0, .slice a7 0 c7] 44))); have X8 := Lib.hid ((Bk.new W7 #[.int .i64 0, .slice ax 0 cx] 25).past (.cells #[.int .i64 1, .bool false, .int .i64 0, .int .i64 0, .int .i64 0, .slice a7 0 c7] 44)); clear hb7 hnx; have g0 := K8.out.g.at_ 0 _ rfl; have g1 := K8.out.g.at_ 1 _ rfl; have x0 := X8.out.at_ 0 _ rfl; have x1 := X8.out.at_ 1 _ rfl))
    | (go_at_call 13; ((with_reducible refine (cm _ K8.out.b).mono ?_); clear cm g0 g1 x0 x1; rintro e W9 ⟨rfl, hb9⟩; have K9 := Lib.hid (K8.out.keep hb9); have N9 := Lib.hid (N8.out.keep hb9); have X9 := Lib.hid (X8.out.keep hb9); clear hb9; have g0 := K9.out.g.at_ 0 _ rfl; have g1 := K9.out.g.at_ 1 _ rfl; have x0 := X9.out.at_ 0 _ rfl; have x1 := X9.out.at_ 1 _ rfl))
    | (go_at_call 8; ((with_reducible refine (caw _).mono ?_); clear caw; rintro e WA ⟨rfl, hbA⟩; have HA := Lib.hid (bel2 K9.out.b hbA); clear hbA))
    | fail)
  go_ret
  exact ⟨rfl, HA.out⟩
set_option maxRecDepth 100000 in
set_option maxHeartbeats 12800000 in
theorem walk_get7 (a0 : Option Addr) (cap0 : Nat) (z0 : List OpD) (t1 : Int) (a1 : Option Addr) (cap1 : Nat) (N1 : List Nd) (h2 l2 c2 u2 m2 : Int) (o3 : OpD) (w : World) (w0 : Ops w a0 cap0 z0) (w1 : Ns w a1 cap1 N1) (s1 : Mid N1) (w3 : o3.wf) (hn : ¬ 60 < z0.length) (hL : Lgt N1) (hc : o3.c = 7) (s : Sh) (hT : Tr N1 s t1) :
    Calls Try.prog 3 #[.slice a0 z0.length cap0, .agg #[.int .i64 t1, .slice a1 N1.length cap1], .agg #[.int .i64 h2, .int .i64 l2, .int .i64 c2, .int .i64 u2, .int .i64 m2], .agg #[.int .i64 o3.c, .int .i64 o3.k, .int .i64 o3.h, .int .i64 o3.v]] w fun e w' => e = .returned (.bool true) ∧ Below w.heap.size w w' := by
  have K1 := Lib.hid (OB.new w t1 a1 N1.length cap1 h2 l2 c2 u2 m2 o3.c o3.k o3.h o3.v)
  have caw := fun W => sawake_any W
  have hn2 : decide ((60 : Int) < (z0.length : Int)) = false := decide_eq_false (by omega)
  have cl := fun W (hb : Below w.heap.size w W) => light_any t1 a1 cap1 N1 W (w1.keep hb) s1 0 (fun _ => rfl) (fun h => absurd hL h)
  obtain ⟨f, f0, hf⟩ := chn_ex (h := 100000) (l := -100000) (cc := 0) (u := 0) (m := 0) z0 aw_t0
  obtain ⟨hl1, hs0⟩ := off_chn hf f0 z0.length (Nat.le_refl _)
  have cr := fun (W : World) (a : Option Addr) (cp : Nat) (hW : Below w.heap.size w W) (hN : Ns W a cp (oneN [])) => srun_one a cp 100000 (-100000) 0 0 0 100000 (-100000) 0 0 0 a0 cap0 z0 W hN (w0.below hW) (by omega) (by decide) f f0 hf
  unfold RnIs at cr
  rw [runA_len, hl1] at cr
  have co := fun W => tone_any none 0 [] W (Prs.nil _) (by simp) [] (by simp)
  unfold TnIs at co
  have l1 : (oneN []).length = 1 := rfl
  simp only [l1, List.length_nil] at co
  have HF := Lib.hid (And.intro hl1 hs0)
  have hs := hL.small
  have e4 : (o3.c == 4) = false := by simp; omega
  have e7 : (o3.c == 7) = true := by rw [hc]; rfl
  have e8 : (o3.c == 8) = false := by simp; omega
  have cm := fun W (hb : Below w.heap.size w W) => tmay_any t1 a1 cap1 N1 W (w1.keep hb) hs true ⟨fun _ => ⟨s, hT⟩, fun _ => rfl⟩
  have hD : DoS N1 s (wi 1 h2 100000) (wi (-100000) l2 0) (wi (-100000) c2 100000) (wi (-100000) u2 100000) (wi (-100000) m2 100000) o3 (lay N1 s 0) := doS_read (by omega)
  have hl := hL.1
  have htot := lgt_total hT hL
  have cd := fun W (hb : Below w.heap.size w W) => sdo_any t1 a1 cap1 N1 h2 l2 c2 u2 m2 _ _ _ _ _ o3 w3 W (w1.keep hb) hs s hT (by omega) (by omega) ⟨rfl, rfl, rfl, rfl, rfl⟩ _ hD
  have hlay := lay_plain hT
  have htr := (lay_tr hT).1
  have cs := fun (W : World) (ax : Option Addr) (cx : Nat) (hb : Below w.heap.size w W) (hX : Ns W ax cx (lay N1 s 0)) => tsame_any 0 t1 ax a1 cx cap1 (lay N1 s 0) N1 W hX (w1.keep hb) (lay_small hT hs) hs true true (lay N1 s 0) (lay N1 s 0) (.inl ⟨_, htr, rfl, hlay.symm⟩) (.inl ⟨s, hT, rfl, rfl⟩) true ⟨fun _ => ⟨rfl, rfl, rfl⟩, fun _ => rfl⟩
  have hql : (lay N1 s 0).length = N1.length := by rw [lay_len, hT.all]
  unfold SoIs Ad.val at cd
  unfold trv polv opv at cd
  unfold trv at cs
  simp only [hql] at cs
  generalize doA (allP N1 s.lvs) o3.c o3.k o3.h = D at cd
  obtain ⟨d0, d1, d2, d3, d4, dp⟩ := D
  dsimp only at cd
  unfold trv at cm
  unfold trv at cl
  clear w0 w1 s1 w3 hL hf hs0 hl1 f0 hT hD htot hlay htr hs hc
  have hK := Lib.hid True.intro
  have g0 := K1.out.g.at_ 0 _ rfl
  have g1 := K1.out.g.at_ 1 _ rfl
  go_enter Try.func3, Try.ntmps3
  go_wp2_with (first
    | (go_at_call 7; ((with_reducible refine (cl _ K1.out.b).mono ?_); clear cl; rintro e W3 ⟨rfl, hb3⟩; have K3 := Lib.hid (K1.out.keep hb3); clear hb3 g0 g1))
    | (go_at_call 10; ((with_reducible refine (co _).mono ?_); clear co; rintro e W4 ⟨a4, c4, rfl, hn4, hb4⟩; have N4 := Lib.hid hn4; have K4 := Lib.hid (K3.out.keep hb4); clear hn4 hb4))
    | (go_at_call 11; ((with_reducible refine (off_any _).mono ?_); rintro e W5 ⟨rfl, hb5⟩; have N5 := Lib.hid (N4.out.keep hb5); have K5 := Lib.hid (K4.out.keep hb5); clear hb5))
    | (go_at_call 9; ((with_reducible refine (cr _ _ _ K5.out.b N5.out).mono ?_); clear cr; rintro e W6 ⟨a6, c6, g6, rfl, hn6, -, -, hb6⟩; have K6 := Lib.hid ((K5.out.keep hb6).keep (al1 (.cells #[.int .i64 0, .slice a6 1 c6] 25))); have U6 := Lib.hid (Bk.new W6 #[.int .i64 0, .slice a6 1 c6] 25); have hns := hn6.ns.keep (al1 (.cells #[.int .i64 0, .slice a6 1 c6] 25)); obtain ⟨b6, o6, pa6, pc6, rfl, hna⟩ := hns.2.2 0 _ (nd_get (by rw [HF.out.1]; decide)); have x5 := hna.c5; rw [HF.out.2] at x5; simp only [Nat.zero_mul, Nat.add_zero] at x5; have hc61 := hns.1; have hc62 := hns.2.1; rw [HF.out.1] at hc61; unfold maxLen at hc62; have hc63 : (0 : Int) < 1 := (by decide); have HX := Lib.hid (And.intro hc61 hc62); clear hc61 hc62 hn6 hb6 hns hna; have u0 := U6.out.at_ 0 _ rfl; have u1 := U6.out.at_ 1 _ rfl; have o0 := K6.out.o.at_ 0 _ rfl; have o1 := K6.out.o.at_ 1 _ rfl; have o2 := K6.out.o.at_ 2 _ rfl; have o3x := K6.out.o.at_ 3 _ rfl; have g0 := K6.out.g.at_ 0 _ rfl; have g1 := K6.out.g.at_ 1 _ rfl; have p0 := K6.out.p.at_ 0 _ rfl; have p1 := K6.out.p.at_ 1 _ rfl; have p2 := K6.out.p.at_ 2 _ rfl; have p3 := K6.out.p.at_ 3 _ rfl; have p4 := K6.out.p.at_ 4 _ rfl))
    | (go_at_call 12; ((with_reducible refine (cd _ K6.out.b).mono ?_); clear cd u0 u1 x5 g0 g1 p0 p1 p2 p3 p4 o0 o1 o2 o3x; rintro e W7 ⟨ax, cx, a7, c7, rfl, hnx, -, hb7⟩; have K8 := Lib.hid (((K6.out.keep hb7).keep (al1 (.cells #[.int .i64 0, .slice ax N1.length cx] 25))).keep (al1 (.cells #[.int .i64 d0, .bool d1, .int .i64 d2, .int .i64 d3, .int .i64 d4, .slice a7 dp.length c7] 44))); have N8 := Lib.hid ((hnx.keep (al1 (.cells #[.int .i64 0, .slice ax N1.length cx] 25))).keep (al1 (.cells #[.int .i64 d0, .bool d1, .int .i64 d2, .int .i64 d3, .int .i64 d4, .slice a7 dp.length c7] 44))); have X8 := Lib.hid ((Bk.new W7 #[.int .i64 0, .slice ax N1.length cx] 25).past (.cells #[.int .i64 d0, .bool d1, .int .i64 d2, .int .i64 d3, .int .i64 d4, .slice a7 dp.length c7] 44)); clear hb7 hnx; have g0 := K8.out.g.at_ 0 _ rfl; have g1 := K8.out.g.at_ 1 _ rfl; have x0 := X8.out.at_ 0 _ rfl; have x1 := X8.out.at_ 1 _ rfl))
    | (go_at_call 13; ((with_reducible refine (cm _ K8.out.b).mono ?_); clear cm g0 g1 x0 x1; rintro e W9 ⟨rfl, hb9⟩; have K9 := Lib.hid (K8.out.keep hb9); have N9 := Lib.hid (N8.out.keep hb9); have X9 := Lib.hid (X8.out.keep hb9); clear hb9; have g0 := K9.out.g.at_ 0 _ rfl; have g1 := K9.out.g.at_ 1 _ rfl; have x0 := X9.out.at_ 0 _ rfl; have x1 := X9.out.at_ 1 _ rfl))
    | (go_at_call 14; ((with_reducible refine (cs _ _ _ K9.out.b N9.out).mono ?_); clear cs g0 g1 x0 x1; rintro e W10 ⟨rfl, hb10⟩; have K10 := Lib.hid (K9.out.keep hb10); clear hb10))
    | (go_at_call 8; ((with_reducible refine (caw _).mono ?_); clear caw; rintro e WA ⟨rfl, hbA⟩; have HA := Lib.hid (bel2 K10.out.b hbA); clear hbA))
    | fail)
  go_ret
  exact ⟨rfl, HA.out⟩
set_option maxRecDepth 100000 in
set_option maxHeartbeats 12800000 in
theorem walk_none8 (a0 : Option Addr) (cap0 : Nat) (z0 : List OpD) (t1 : Int) (a1 : Option Addr) (cap1 : Nat) (N1 : List Nd) (h2 l2 c2 u2 m2 : Int) (o3 : OpD) (w : World) (w0 : Ops w a0 cap0 z0) (w1 : Ns w a1 cap1 N1) (s1 : Mid N1) (w3 : o3.wf) (hn : ¬ 60 < z0.length) (hL : Lgt N1) (hc : o3.c = 8) (hT : ∀ s, ¬ Tr N1 s t1) :
    Calls Try.prog 3 #[.slice a0 z0.length cap0, .agg #[.int .i64 t1, .slice a1 N1.length cap1], .agg #[.int .i64 h2, .int .i64 l2, .int .i64 c2, .int .i64 u2, .int .i64 m2], .agg #[.int .i64 o3.c, .int .i64 o3.k, .int .i64 o3.h, .int .i64 o3.v]] w fun e w' => e = .returned (.bool true) ∧ Below w.heap.size w w' := by
  have K1 := Lib.hid (OB.new w t1 a1 N1.length cap1 h2 l2 c2 u2 m2 o3.c o3.k o3.h o3.v)
  have caw := fun W => sawake_any W
  have hn2 : decide ((60 : Int) < (z0.length : Int)) = false := decide_eq_false (by omega)
  have cl := fun W (hb : Below w.heap.size w W) => light_any t1 a1 cap1 N1 W (w1.keep hb) s1 0 (fun _ => rfl) (fun h => absurd hL h)
  obtain ⟨f, f0, hf⟩ := chn_ex (h := 100000) (l := -100000) (cc := 0) (u := 0) (m := 0) z0 aw_t0
  obtain ⟨hl1, hs0⟩ := off_chn hf f0 z0.length (Nat.le_refl _)
  have cr := fun (W : World) (a : Option Addr) (cp : Nat) (hW : Below w.heap.size w W) (hN : Ns W a cp (oneN [])) => srun_one a cp 100000 (-100000) 0 0 0 100000 (-100000) 0 0 0 a0 cap0 z0 W hN (w0.below hW) (by omega) (by decide) f f0 hf
  unfold RnIs at cr
  rw [runA_len, hl1] at cr
  have co := fun W => tone_any none 0 [] W (Prs.nil _) (by simp) [] (by simp)
  unfold TnIs at co
  have l1 : (oneN []).length = 1 := rfl
  simp only [l1, List.length_nil] at co
  have HF := Lib.hid (And.intro hl1 hs0)
  have hs := hL.small
  have e4 : (o3.c == 4) = false := by simp; omega
  have e7 : (o3.c == 7) = false := by simp; omega
  have e8 : (o3.c == 8) = true := by rw [hc]; rfl
  have cm := fun W (hb : Below w.heap.size w W) => tmay_any t1 a1 cap1 N1 W (w1.keep hb) hs false ⟨fun h => (by cases h), fun ⟨s, hs⟩ => absurd hs (hT s)⟩
  have cd := fun W (hb : Below w.heap.size w W) => sdo_no t1 a1 cap1 N1 h2 l2 c2 u2 m2 o3 W (w1.keep hb) hs hT
  unfold SoIs Ad.val at cd
  unfold trv polv opv at cd
  dsimp only at cd
  unfold trv at cm
  unfold trv at cl
  clear w0 w1 s1 w3 hL hf hs0 hl1 f0 hT hs hc
  have hK := Lib.hid True.intro
  have g0 := K1.out.g.at_ 0 _ rfl
  have g1 := K1.out.g.at_ 1 _ rfl
  go_enter Try.func3, Try.ntmps3
  go_wp2_with (first
    | (go_at_call 7; ((with_reducible refine (cl _ K1.out.b).mono ?_); clear cl; rintro e W3 ⟨rfl, hb3⟩; have K3 := Lib.hid (K1.out.keep hb3); clear hb3 g0 g1))
    | (go_at_call 10; ((with_reducible refine (co _).mono ?_); clear co; rintro e W4 ⟨a4, c4, rfl, hn4, hb4⟩; have N4 := Lib.hid hn4; have K4 := Lib.hid (K3.out.keep hb4); clear hn4 hb4))
    | (go_at_call 11; ((with_reducible refine (off_any _).mono ?_); rintro e W5 ⟨rfl, hb5⟩; have N5 := Lib.hid (N4.out.keep hb5); have K5 := Lib.hid (K4.out.keep hb5); clear hb5))
    | (go_at_call 9; ((with_reducible refine (cr _ _ _ K5.out.b N5.out).mono ?_); clear cr; rintro e W6 ⟨a6, c6, g6, rfl, hn6, -, -, hb6⟩; have K6 := Lib.hid ((K5.out.keep hb6).keep (al1 (.cells #[.int .i64 0, .slice a6 1 c6] 25))); have U6 := Lib.hid (Bk.new W6 #[.int .i64 0, .slice a6 1 c6] 25); have hns := hn6.ns.keep (al1 (.cells #[.int .i64 0, .slice a6 1 c6] 25)); obtain ⟨b6, o6, pa6, pc6, rfl, hna⟩ := hns.2.2 0 _ (nd_get (by rw [HF.out.1]; decide)); have x5 := hna.c5; rw [HF.out.2] at x5; simp only [Nat.zero_mul, Nat.add_zero] at x5; have hc61 := hns.1; have hc62 := hns.2.1; rw [HF.out.1] at hc61; unfold maxLen at hc62; have hc63 : (0 : Int) < 1 := (by decide); have HX := Lib.hid (And.intro hc61 hc62); clear hc61 hc62 hn6 hb6 hns hna; have u0 := U6.out.at_ 0 _ rfl; have u1 := U6.out.at_ 1 _ rfl; have o0 := K6.out.o.at_ 0 _ rfl; have o1 := K6.out.o.at_ 1 _ rfl; have o2 := K6.out.o.at_ 2 _ rfl; have o3x := K6.out.o.at_ 3 _ rfl; have g0 := K6.out.g.at_ 0 _ rfl; have g1 := K6.out.g.at_ 1 _ rfl; have p0 := K6.out.p.at_ 0 _ rfl; have p1 := K6.out.p.at_ 1 _ rfl; have p2 := K6.out.p.at_ 2 _ rfl; have p3 := K6.out.p.at_ 3 _ rfl; have p4 := K6.out.p.at_ 4 _ rfl))
    | (go_at_call 12; ((with_reducible refine (cd _ K6.out.b).mono ?_); clear cd u0 u1 x5 g0 g1 p0 p1 p2 p3 p4 o0 o1 o2 o3x; rintro e W7 ⟨ax, cx, a7, c7, rfl, hnx, -, hb7⟩; have K8 := Lib.hid (((K6.out.keep hb7).keep (al1 (.cells #[.int .i64 0, .slice ax 0 cx] 25))).keep (al1 (.cells #[.int .i64 1, .bool false, .int .i64 0, .int .i64 0, .int .i64 0, .slice a7 0 c7] 44))); have N8 := Lib.hid ((hnx.keep (al1 (.cells #[.int .i64 0, .slice ax 0 cx] 25))).keep (al1 (.cells #[.int .i64 1, .bool false, .int .i64 0, .int .i64 0, .int .i64 0, .slice a7 0 c7] 44))); have X8 := Lib.hid ((Bk.new W7 #[.int .i64 0, .slice ax 0 cx] 25).past (.cells #[.int .i64 1, .bool false, .int .i64 0, .int .i64 0, .int .i64 0, .slice a7 0 c7] 44)); clear hb7 hnx; have g0 := K8.out.g.at_ 0 _ rfl; have g1 := K8.out.g.at_ 1 _ rfl; have x0 := X8.out.at_ 0 _ rfl; have x1 := X8.out.at_ 1 _ rfl))
    | (go_at_call 13; ((with_reducible refine (cm _ K8.out.b).mono ?_); clear cm g0 g1 x0 x1; rintro e W9 ⟨rfl, hb9⟩; have K9 := Lib.hid (K8.out.keep hb9); have N9 := Lib.hid (N8.out.keep hb9); have X9 := Lib.hid (X8.out.keep hb9); clear hb9; have g0 := K9.out.g.at_ 0 _ rfl; have g1 := K9.out.g.at_ 1 _ rfl; have x0 := X9.out.at_ 0 _ rfl; have x1 := X9.out.at_ 1 _ rfl))
    | (go_at_call 8; ((with_reducible refine (caw _).mono ?_); clear caw; rintro e WA ⟨rfl, hbA⟩; have HA := Lib.hid (bel2 K9.out.b hbA); clear hbA))
    | fail)
  go_ret
  exact ⟨rfl, HA.out⟩
set_option maxRecDepth 100000 in
set_option maxHeartbeats 12800000 in
theorem walk_get8 (a0 : Option Addr) (cap0 : Nat) (z0 : List OpD) (t1 : Int) (a1 : Option Addr) (cap1 : Nat) (N1 : List Nd) (h2 l2 c2 u2 m2 : Int) (o3 : OpD) (w : World) (w0 : Ops w a0 cap0 z0) (w1 : Ns w a1 cap1 N1) (s1 : Mid N1) (w3 : o3.wf) (hn : ¬ 60 < z0.length) (hL : Lgt N1) (hc : o3.c = 8) (s : Sh) (hT : Tr N1 s t1) :
    Calls Try.prog 3 #[.slice a0 z0.length cap0, .agg #[.int .i64 t1, .slice a1 N1.length cap1], .agg #[.int .i64 h2, .int .i64 l2, .int .i64 c2, .int .i64 u2, .int .i64 m2], .agg #[.int .i64 o3.c, .int .i64 o3.k, .int .i64 o3.h, .int .i64 o3.v]] w fun e w' => e = .returned (.bool true) ∧ Below w.heap.size w w' := by
  have K1 := Lib.hid (OB.new w t1 a1 N1.length cap1 h2 l2 c2 u2 m2 o3.c o3.k o3.h o3.v)
  have caw := fun W => sawake_any W
  have hn2 : decide ((60 : Int) < (z0.length : Int)) = false := decide_eq_false (by omega)
  have cl := fun W (hb : Below w.heap.size w W) => light_any t1 a1 cap1 N1 W (w1.keep hb) s1 0 (fun _ => rfl) (fun h => absurd hL h)
  obtain ⟨f, f0, hf⟩ := chn_ex (h := 100000) (l := -100000) (cc := 0) (u := 0) (m := 0) z0 aw_t0
  obtain ⟨hl1, hs0⟩ := off_chn hf f0 z0.length (Nat.le_refl _)
  have cr := fun (W : World) (a : Option Addr) (cp : Nat) (hW : Below w.heap.size w W) (hN : Ns W a cp (oneN [])) => srun_one a cp 100000 (-100000) 0 0 0 100000 (-100000) 0 0 0 a0 cap0 z0 W hN (w0.below hW) (by omega) (by decide) f f0 hf
  unfold RnIs at cr
  rw [runA_len, hl1] at cr
  have co := fun W => tone_any none 0 [] W (Prs.nil _) (by simp) [] (by simp)
  unfold TnIs at co
  have l1 : (oneN []).length = 1 := rfl
  simp only [l1, List.length_nil] at co
  have HF := Lib.hid (And.intro hl1 hs0)
  have hs := hL.small
  have e4 : (o3.c == 4) = false := by simp; omega
  have e7 : (o3.c == 7) = false := by simp; omega
  have e8 : (o3.c == 8) = true := by rw [hc]; rfl
  have cm := fun W (hb : Below w.heap.size w W) => tmay_any t1 a1 cap1 N1 W (w1.keep hb) hs true ⟨fun _ => ⟨s, hT⟩, fun _ => rfl⟩
  have hD : DoS N1 s (wi 1 h2 100000) (wi (-100000) l2 0) (wi (-100000) c2 100000) (wi (-100000) u2 100000) (wi (-100000) m2 100000) o3 (lay N1 s 0) := doS_read (by omega)
  have hl := hL.1
  have htot := lgt_total hT hL
  have cd := fun W (hb : Below w.heap.size w W) => sdo_any t1 a1 cap1 N1 h2 l2 c2 u2 m2 _ _ _ _ _ o3 w3 W (w1.keep hb) hs s hT (by omega) (by omega) ⟨rfl, rfl, rfl, rfl, rfl⟩ _ hD
  have hlay := lay_plain hT
  have htr := (lay_tr hT).1
  have cs := fun (W : World) (ax : Option Addr) (cx : Nat) (hb : Below w.heap.size w W) (hX : Ns W ax cx (lay N1 s 0)) => tsame_any 0 t1 ax a1 cx cap1 (lay N1 s 0) N1 W hX (w1.keep hb) (lay_small hT hs) hs true true (lay N1 s 0) (lay N1 s 0) (.inl ⟨_, htr, rfl, hlay.symm⟩) (.inl ⟨s, hT, rfl, rfl⟩) true ⟨fun _ => ⟨rfl, rfl, rfl⟩, fun _ => rfl⟩
  have hql : (lay N1 s 0).length = N1.length := by rw [lay_len, hT.all]
  unfold SoIs Ad.val at cd
  unfold trv polv opv at cd
  unfold trv at cs
  simp only [hql] at cs
  generalize doA (allP N1 s.lvs) o3.c o3.k o3.h = D at cd
  obtain ⟨d0, d1, d2, d3, d4, dp⟩ := D
  dsimp only at cd
  unfold trv at cm
  unfold trv at cl
  clear w0 w1 s1 w3 hL hf hs0 hl1 f0 hT hD htot hlay htr hs hc
  have hK := Lib.hid True.intro
  have g0 := K1.out.g.at_ 0 _ rfl
  have g1 := K1.out.g.at_ 1 _ rfl
  go_enter Try.func3, Try.ntmps3
  go_wp2_with (first
    | (go_at_call 7; ((with_reducible refine (cl _ K1.out.b).mono ?_); clear cl; rintro e W3 ⟨rfl, hb3⟩; have K3 := Lib.hid (K1.out.keep hb3); clear hb3 g0 g1))
    | (go_at_call 10; ((with_reducible refine (co _).mono ?_); clear co; rintro e W4 ⟨a4, c4, rfl, hn4, hb4⟩; have N4 := Lib.hid hn4; have K4 := Lib.hid (K3.out.keep hb4); clear hn4 hb4))
    | (go_at_call 11; ((with_reducible refine (off_any _).mono ?_); rintro e W5 ⟨rfl, hb5⟩; have N5 := Lib.hid (N4.out.keep hb5); have K5 := Lib.hid (K4.out.keep hb5); clear hb5))
    | (go_at_call 9; ((with_reducible refine (cr _ _ _ K5.out.b N5.out).mono ?_); clear cr; rintro e W6 ⟨a6, c6, g6, rfl, hn6, -, -, hb6⟩; have K6 := Lib.hid ((K5.out.keep hb6).keep (al1 (.cells #[.int .i64 0, .slice a6 1 c6] 25))); have U6 := Lib.hid (Bk.new W6 #[.int .i64 0, .slice a6 1 c6] 25); have hns := hn6.ns.keep (al1 (.cells #[.int .i64 0, .slice a6 1 c6] 25)); obtain ⟨b6, o6, pa6, pc6, rfl, hna⟩ := hns.2.2 0 _ (nd_get (by rw [HF.out.1]; decide)); have x5 := hna.c5; rw [HF.out.2] at x5; simp only [Nat.zero_mul, Nat.add_zero] at x5; have hc61 := hns.1; have hc62 := hns.2.1; rw [HF.out.1] at hc61; unfold maxLen at hc62; have hc63 : (0 : Int) < 1 := (by decide); have HX := Lib.hid (And.intro hc61 hc62); clear hc61 hc62 hn6 hb6 hns hna; have u0 := U6.out.at_ 0 _ rfl; have u1 := U6.out.at_ 1 _ rfl; have o0 := K6.out.o.at_ 0 _ rfl; have o1 := K6.out.o.at_ 1 _ rfl; have o2 := K6.out.o.at_ 2 _ rfl; have o3x := K6.out.o.at_ 3 _ rfl; have g0 := K6.out.g.at_ 0 _ rfl; have g1 := K6.out.g.at_ 1 _ rfl; have p0 := K6.out.p.at_ 0 _ rfl; have p1 := K6.out.p.at_ 1 _ rfl; have p2 := K6.out.p.at_ 2 _ rfl; have p3 := K6.out.p.at_ 3 _ rfl; have p4 := K6.out.p.at_ 4 _ rfl))
    | (go_at_call 12; ((with_reducible refine (cd _ K6.out.b).mono ?_); clear cd u0 u1 x5 g0 g1 p0 p1 p2 p3 p4 o0 o1 o2 o3x; rintro e W7 ⟨ax, cx, a7, c7, rfl, hnx, -, hb7⟩; have K8 := Lib.hid (((K6.out.keep hb7).keep (al1 (.cells #[.int .i64 0, .slice ax N1.length cx] 25))).keep (al1 (.cells #[.int .i64 d0, .bool d1, .int .i64 d2, .int .i64 d3, .int .i64 d4, .slice a7 dp.length c7] 44))); have N8 := Lib.hid ((hnx.keep (al1 (.cells #[.int .i64 0, .slice ax N1.length cx] 25))).keep (al1 (.cells #[.int .i64 d0, .bool d1, .int .i64 d2, .int .i64 d3, .int .i64 d4, .slice a7 dp.length c7] 44))); have X8 := Lib.hid ((Bk.new W7 #[.int .i64 0, .slice ax N1.length cx] 25).past (.cells #[.int .i64 d0, .bool d1, .int .i64 d2, .int .i64 d3, .int .i64 d4, .slice a7 dp.length c7] 44)); clear hb7 hnx; have g0 := K8.out.g.at_ 0 _ rfl; have g1 := K8.out.g.at_ 1 _ rfl; have x0 := X8.out.at_ 0 _ rfl; have x1 := X8.out.at_ 1 _ rfl))
    | (go_at_call 13; ((with_reducible refine (cm _ K8.out.b).mono ?_); clear cm g0 g1 x0 x1; rintro e W9 ⟨rfl, hb9⟩; have K9 := Lib.hid (K8.out.keep hb9); have N9 := Lib.hid (N8.out.keep hb9); have X9 := Lib.hid (X8.out.keep hb9); clear hb9; have g0 := K9.out.g.at_ 0 _ rfl; have g1 := K9.out.g.at_ 1 _ rfl; have x0 := X9.out.at_ 0 _ rfl; have x1 := X9.out.at_ 1 _ rfl))
    | (go_at_call 14; ((with_reducible refine (cs _ _ _ K9.out.b N9.out).mono ?_); clear cs g0 g1 x0 x1; rintro e W10 ⟨rfl, hb10⟩; have K10 := Lib.hid (K9.out.keep hb10); clear hb10))
    | (go_at_call 8; ((with_reducible refine (caw _).mono ?_); clear caw; rintro e WA ⟨rfl, hbA⟩; have HA := Lib.hid (bel2 K10.out.b hbA); clear hbA))
    | fail)
  go_ret
  exact ⟨rfl, HA.out⟩

theorem walk (a0 : Option Addr) (cap0 : Nat) (z0 : List OpD) (t1 : Int) (a1 : Option Addr) (cap1 : Nat) (N1 : List Nd) (h2 l2 c2 u2 m2 : Int) (o3 : OpD) (w : World) (w0 : Ops w a0 cap0 z0) (w1 : Ns w a1 cap1 N1) (s1 : Mid N1) (w3 : o3.wf) :
    Calls Try.prog 3 #[.slice a0 z0.length cap0, .agg #[.int .i64 t1, .slice a1 N1.length cap1], .agg #[.int .i64 h2, .int .i64 l2, .int .i64 c2, .int .i64 u2, .int .i64 m2], .agg #[.int .i64 o3.c, .int .i64 o3.k, .int .i64 o3.h, .int .i64 o3.v]] w fun e w' => e = .returned (.bool true) ∧ Below w.heap.size w w' := by
  by_cases hn : 60 < z0.length
  · exact walk_long a0 cap0 z0 t1 a1 cap1 N1 h2 l2 c2 u2 m2 o3 w w0 w1 s1 w3 hn
  by_cases hL : Lgt N1
  · by_cases hc : o3.c = 4 ∨ o3.c = 7 ∨ o3.c = 8
    · rcases Classical.em (∃ s, Tr N1 s t1) with ⟨s, hT⟩ | hT
      · rcases hc with hc | hc | hc
        · exact walk_get4 a0 cap0 z0 t1 a1 cap1 N1 h2 l2 c2 u2 m2 o3 w w0 w1 s1 w3 hn hL hc s hT
        · exact walk_get7 a0 cap0 z0 t1 a1 cap1 N1 h2 l2 c2 u2 m2 o3 w w0 w1 s1 w3 hn hL hc s hT
        · exact walk_get8 a0 cap0 z0 t1 a1 cap1 N1 h2 l2 c2 u2 m2 o3 w w0 w1 s1 w3 hn hL hc s hT
      · rcases hc with hc | hc | hc
        · exact walk_none4 a0 cap0 z0 t1 a1 cap1 N1 h2 l2 c2 u2 m2 o3 w w0 w1 s1 w3 hn hL hc (fun s hs => hT ⟨s, hs⟩)
        · exact walk_none7 a0 cap0 z0 t1 a1 cap1 N1 h2 l2 c2 u2 m2 o3 w w0 w1 s1 w3 hn hL hc (fun s hs => hT ⟨s, hs⟩)
        · exact walk_none8 a0 cap0 z0 t1 a1 cap1 N1 h2 l2 c2 u2 m2 o3 w w0 w1 s1 w3 hn hL hc (fun s hs => hT ⟨s, hs⟩)
    · exact walk_rest a0 cap0 z0 t1 a1 cap1 N1 h2 l2 c2 u2 m2 o3 w w0 w1 s1 w3 hn hL hc
  · exact walk_big a0 cap0 z0 t1 a1 cap1 N1 h2 l2 c2 u2 m2 o3 w w0 w1 s1 w3 hn hL

set_option maxRecDepth 100000 in
theorem lifted (os : Os) (started : os.Started) (H : Type) (enc : TypeId × Value → H) :
    ReturnsInHanded {} Try.checked os 3 .any (Rows.soloOffSpec.pre6 enc Try.prog Try.f3 Rows.soloOffRow.domain false) (Rows.soloOffSpec.post enc Try.prog Try.f3 false true false false) := by
  refine returnsInHanded_of_change_sized (C := Try.checked) own started (by kernel_rfl) Try.func3
    (ChangeSpec.witness6 (enc := enc) (C := Try.checked) false ⟨#[], #[.slice none 0 0, .agg #[.int .i64 0, .slice none 0 0], .agg #[.int .i64 0, .int .i64 0, .int .i64 0, .int .i64 0, .int .i64 0], .agg #[.int .i64 0, .int .i64 0, .int .i64 0, .int .i64 0]], []⟩ 8 (by kernel_rfl) (by kernel_rfl) (by kernel_rfl) (by kernel_rfl)) ?_
  intro W base args ds gs before hval0 hW hcnd hsz _
  have hval : ∀ (j : Nat) t v, Try.f3.params[j]? = some t → args[j]? = some v → Value.okWide Try.prog W .any base t v := hval0
  have hW' := hW
  obtain ⟨p, q, hA0, hV, rfl, hfz, hnd⟩ := hW
  have hA : DataW.TrodAll enc Try.prog W 0 (fun _ => true) true Try.f3.params.toList args.toList ds p := hA0
  rw [Try.params3] at hA hval
  obtain ⟨v0, vs0, d0, ds0, p0, q0, hargs, rfl, rfl, h0, r0⟩ := trodAll_cons hA
  obtain ⟨v1, vs1, d1, ds1, p1, q1, rfl, rfl, rfl, h1, r1⟩ := trodAll_cons r0
  obtain ⟨v2, vs2, d2, ds2, p2, q2, rfl, rfl, rfl, h2, r2⟩ := trodAll_cons r1
  obtain ⟨v3, vs3, d3, ds3, p3, q3, rfl, rfl, rfl, h3, r3⟩ := trodAll_cons r2
  obtain ⟨rfl, rfl, rfl⟩ := trodAll_nil r3
  obtain rfl : args = #[v0, v1, v2, v3] := by cases args; simp_all
  obtain ⟨rfl, rfl⟩ := trodVars_none hV
  have k0 := h0
  have lt0 : ∀ x ∈ p0, x.block < W.heap.size := by obtain ⟨m, hm⟩ := k0; exact DataW.trod_lt m _ _ _ hm
  obtain ⟨b0, l0, c0, rfl⟩ := okWide_slice Try.underlying22 (hval 0 22 v0 rfl rfl)
  obtain ⟨a0, cap0, z0, e0, w0⟩ := open_ops (enc := enc) (w := W) (v := .slice b0 l0 c0) (fuel := h0.choose) (by simpa [Value.cells] using h0.choose_spec)
  rw [e0] at hval k0 h0 hW' hval0 hA0
  have k1 := h1
  have lt1 : ∀ x ∈ p1, x.block < W.heap.size := by obtain ⟨m, hm⟩ := k1; exact DataW.trod_lt m _ _ _ hm
  obtain ⟨u1, rfl, _⟩ := okWide_struct Try.underlying25 (hval 1 25 v1 rfl rfl)
  obtain ⟨t1_, a1, cap1, N1, e1, w1, s1⟩ := fields_tree (enc := enc) (w := W) (cs := u1.toList) (fuel := h1.choose) (by simpa [Value.cells] using h1.choose_spec) (fun n hn => by simpa using List.all_eq_true.1 hsz n (DataW.weights_mem_each (j := 1) rfl rfl n hn))
  obtain rfl : u1 = #[.int .i64 t1_, .slice a1 N1.length cap1] := by cases u1; simp_all
  have k2 := h2
  have lt2 : ∀ x ∈ p2, x.block < W.heap.size := by obtain ⟨m, hm⟩ := k2; exact DataW.trod_lt m _ _ _ hm
  obtain ⟨u2, rfl, _⟩ := okWide_struct Try.underlying27 (hval 2 27 v2 rfl rfl)
  obtain ⟨h2_, l2_, c2_, u2_, m2_, e2⟩ := fields_pol (enc := enc) (w := W) (cs := u2.toList) (fuel := h2.choose) (by simpa [Value.cells] using h2.choose_spec)
  obtain rfl : u2 = #[.int .i64 h2_, .int .i64 l2_, .int .i64 c2_, .int .i64 u2_, .int .i64 m2_] := by cases u2; simp_all
  have k3 := h3
  have lt3 : ∀ x ∈ p3, x.block < W.heap.size := by obtain ⟨m, hm⟩ := k3; exact DataW.trod_lt m _ _ _ hm
  obtain ⟨u3, rfl, _⟩ := okWide_struct Try.underlying29 (hval 3 29 v3 rfl rfl)
  obtain ⟨o3, e3, w3⟩ := fields_op (enc := enc) (w := W) (cs := u3.toList) (fuel := h3.choose) (by simpa [Value.cells] using h3.choose_spec)
  obtain rfl : u3 = #[.int .i64 o3.c, .int .i64 o3.k, .int .i64 o3.h, .int .i64 o3.v] := by cases u3; simp_all
  clear hA0 hval0
  rw [e0]; refine (walk a0 cap0 z0 t1_ a1 cap1 N1 h2_ l2_ c2_ u2_ m2_ o3 W w0 w1 s1 w3).mono fun e W' ⟨he, bel⟩ => ?_
  subst he
  exact ⟨_, rfl, _, _, _, [], _, [], hW', trodAll_mk1 (shut_bool Try.underlying4 _), (trodAll_cons_mk (Below.trod laidOut (by kernel_rfl) (of_decide_eq_true (by kernel_rfl)) k0 bel lt0) (trodAll_cons_mk (Below.trod laidOut (by kernel_rfl) (of_decide_eq_true (by kernel_rfl)) k1 bel lt1) (trodAll_cons_mk (Below.trod laidOut (by kernel_rfl) (of_decide_eq_true (by kernel_rfl)) k2 bel lt2) (trodAll_cons_mk (Below.trod laidOut (by kernel_rfl) (of_decide_eq_true (by kernel_rfl)) k3 bel lt3) trodAll_mk0)))), rfl, bel.frame _, fun h => by cases h⟩

theorem over : Rows.soloOffRow.holds Try.pinned (OpenSpec.ofChange Rows.soloOffSpec) :=
  OpenClaim.holds_of_wide 3 Try.f3 rfl rfl rfl rfl rfl rfl rfl ⟨rfl, rfl, rfl, rfl, rfl⟩ rfl rfl rfl rfl rfl (by kernel_rfl) Try.func3 (by kernel_rfl)
    (of_decide_eq_true (by kernel_rfl)) (by unfold Func.isWrapper; first | (rw [if_pos (by decide +kernel)]; kernel_rfl) | (rw [if_neg (by decide +kernel)]; exact ⟨rfl, rfl⟩))
    (fun os started H enc _ => lifted os started H enc)

theorem soloOffHolds : Rows.SoloOffSaid := over
#print axioms soloOffHolds
end Go.Proofs.Ytpdliokpbnpppaa.soloOff

