/- SoloEager (P17.2): under Eager, after up to 40 puts, all pairs are there, the tree may be, and where the keys are unlike and two or more there are two leaves or more. No condition but that of the form. -/
import Derived.Test.YtpdliokpbnpppaaRows
import Derived.Test.YtpdliokpbnpppaaExA
import Derived.Test.YtpdliokpbnpppaaSlE
import Derived.OwnWalk
import Derived.LoopTactic
import Derived.WalkKit
import Derived.ProofKit
import Derived.OpenShut
import Derived.ChangeOld
import Derived.Below
namespace Go.Proofs.Ytpdliokpbnpppaa.soloEager
open Go.ChangeShapes Go.WideShapes Go.ChangeAt Go.RowKit
set_option linter.all false

theorem own : ownKnob Try.prog.godebug = none := by kernel_rfl
theorem laidOut : laidOutB Try.prog = true := by kernel_rfl

theorem wq_one {j n : Nat} (h : j < n) (hn : n ≤ 2000) : wrap64 ((j : Int) + 1) = (j : Int) + 1 := wj_one h hn
def SE (w : World) (aw : Option Addr) (j : Nat) : Prop := j < w.heap.size ∨ ∃ o sp, aw = some ⟨j, o, sp⟩
/-- A world of the loop. -/
structure EL (w : World) (z : List Int) (wr : World) (ao : Option Addr) (cp : Nat) (aw : Option Addr) (cw i : Nat) : Prop where
  o : ORow wr (SE w aw) (.slice ao i cp) (ez 0 (z.take i))
  p : Prs wr aw cw (runP [] (ez 0 (z.take i)))
  b : Below w.heap.size w wr
  q : ∀ j o sp, aw = some ⟨j, o, sp⟩ → j < wr.heap.size
set_option maxRecDepth 100000 in
set_option maxHeartbeats 12800000 in
theorem walk_long (a0 : Option Addr) (cap0 : Nat) (z0 : List Int) (w : World) (w0 : RI w a0 cap0 z0) (g0 : ∀ n ∈ z0, (Lit.int .i64 n).wf = true) (hn : 40 < z0.length) :
    Calls Try.prog 5 #[.slice a0 z0.length cap0] w fun e w' => e = .returned (.bool true) ∧ Below w.heap.size w w' := by
  have caw := fun W => sawake_any W
  have hn2 : decide ((40 : Int) < (z0.length : Int)) = true := decide_eq_true (by omega)
  clear w0 g0
  go_enter Try.func5, Try.ntmps5
  go_wp2_with (go_at_call 8; ((with_reducible refine (caw _).mono ?_); clear caw; rintro e WA ⟨rfl, hbA⟩; have HA := Lib.hid hbA; clear hbA))
  go_ret
  exact ⟨rfl, HA.out⟩
set_option maxRecDepth 100000 in
set_option maxHeartbeats 12800000 in
theorem walk_a (a0 : Option Addr) (cap0 : Nat) (z0 : List Int) (w : World) (w0 : RI w a0 cap0 z0) (g0 : ∀ n ∈ z0, (Lit.int .i64 n).wf = true) (hn : ¬ 40 < z0.length) (h1 : (runP [] (ez 0 z0)).length < 2) :
    Calls Try.prog 5 #[.slice a0 z0.length cap0] w fun e w' => e = .returned (.bool true) ∧ Below w.heap.size w w' := by
  have caw := fun W => sawake_any W
  have hn2 : decide ((40 : Int) < (z0.length : Int)) = false := decide_eq_false (by omega)
  have hn3 : z0.length ≤ 40 := by omega
  obtain ⟨f, f0, hf⟩ := chn_ex (h := 1) (l := -1) (cc := 2) (u := -1) (m := 3) (ez 0 z0) aw_t0
  obtain ⟨s, hT, hal, hsz⟩ := oneN_run hf f0
  have hzl : (ez 0 z0).length = z0.length := ez_len 0 z0
  rw [hzl] at hT hal hsz
  have hwf := ez_wf g0 hn3
  have hrl : (runP [] (ez 0 z0)).length ≤ z0.length := by have := runP_le [] (ez 0 z0); rw [hzl] at this; simpa using this
  have cr := fun (W : World) (a oa : Option Addr) (cp ocap : Nat) (hN : Ns W a cp (oneN [])) (hz : Ops W oa ocap (ez 0 z0)) => srun_one a cp 1 (-1) 2 (-1) 3 1 (-1) 2 (-1) 3 oa ocap (ez 0 z0) W hN hz (by omega) (by decide) f f0 hf
  unfold RnIs at cr
  rw [runA_len, hzl] at cr
  have co := fun W => tone_any none 0 [] W (Prs.nil _) (by simp) [] (by simp)
  unfold TnIs at co
  have l1 : (oneN []).length = 1 := rfl
  simp only [l1, List.length_nil] at co
  have hsm : Small (f z0.length) := tr_small hT (by rw [hal]; omega) hT.le
  have ca := fun (W : World) (a : Option Addr) (cp : Nat) (hN : Ns W a cp (f z0.length)) => tall_gen 0 a cp (f z0.length) W hN hsm s.lvs ⟨by have := lvs_len s; have := hT.all; omega, fun i hi => hT.hg.lt i (lvs_pre _ _ hi)⟩ (fun W2 hW2 => tleaves_yes 0 a cp (f z0.length) W2 hW2 hsm s hT)
  rw [hal] at ca
  unfold RowIs trv at ca
  have cv := fun (W : World) (a : Option Addr) (cp : Nat) (hN : Ns W a cp (f z0.length)) => tleaves_yes 0 a cp (f z0.length) W hN hsm s hT
  unfold LvIs trv at cv
  have cm := fun (W : World) (a : Option Addr) (cp : Nat) (hN : Ns W a cp (f z0.length)) => tmay_any 0 a cp (f z0.length) W hN hsm true ⟨fun _ => ⟨s, hT⟩, fun _ => rfl⟩
  unfold trv at cm
  have cs := fun (W : World) (a a2 : Option Addr) (cp cp2 : Nat) (h1 : Prs W a cp (runP [] (ez 0 z0))) (h2 : Prs W a2 cp2 (runP [] (ez 0 z0))) => samep_any a a2 cp cp2 _ _ W h1 h2 true (decide_eq_true rfl)
  have hb1 : decide (((runP [] (ez 0 z0)).length : Int) < 2) = true := by first | exact decide_eq_true (by omega) | exact decide_eq_false (by omega)
  have HW := Lib.hid w0
  have hc1 := w0.1
  have hc2 := w0.2.1
  unfold maxLen at hc2
  have HF := Lib.hid hwf
  have HE0 := Lib.hid (show EL w z0 w none 0 none 0 0 from ⟨ORow.nil _ _, Prs.nil _, Below.refl _ _, fun j o sp e => by cases e⟩)
  have HRL := Lib.hid (And.intro hrl hzl)
  clear w0 g0 hf f0 hT hal hsz hwf hsm hrl hzl h1
  go_enter Try.func5, Try.ntmps5
  go_wp2_with (fail)
  go_loopw [3, 4, 15] (fun x y z wr => ∃ (i cp cw : Nat) (ao aw : Option Addr), i ≤ z0.length ∧ x = .slice ao i cp ∧ y = .slice aw (runP [] (ez 0 (z0.take i))).length cw ∧ z = .int .i64 i ∧ EL w z0 wr ao cp aw cw i) (fun _ _ z _ => z0.length - (intOf z).toNat)
  case atStart => exact ⟨0, 0, 0, none, none, Nat.zero_le _, rfl, rfl, rfl, HE0.out⟩
  case round =>
    clear HE0
    obtain ⟨i, cp, cw, ao, aw, hi, rfl, rfl, rfl, hE⟩ := hrel
    have HE := Lib.hid hE
    clear hE
    by_cases hlt : i < z0.length
    · obtain ⟨k, hk⟩ : ∃ k, z0[i]? = some k := ⟨_, List.getElem?_eq_getElem hlt⟩
      obtain ⟨kb, ko, rfl, ck⟩ := (HW.out.below HE.out.b).2.2 i k hk
      have hltI : (i : Int) < (z0.length : Int) := by omega
      have hi0 : (0 : Int) ≤ (i : Int) := by omega
      have HLT := Lib.hid hlt
      have HWJ := Lib.hid (wq_one hlt (by omega))
      have hsn := ez_snoc hk
      have hrp : runP [] (ez 0 (z0.take (i + 1))) = withL (runP [] (ez 0 (z0.take i))) k (i : Int) := by rw [hsn, runP_snoc]; exact ez_put (runP_s [] _ Srt.nil) k _
      have hPl : (runP [] (ez 0 (z0.take i))).length ≤ 2000000 := by have h1 := runP_le [] (ez 0 (z0.take i)); rw [ez_len, List.length_take] at h1; simp at h1; omega
      have HSN := Lib.hid (And.intro hsn hrp)
      have hsl : (ez 0 (z0.take i)).length = i := by rw [ez_len, List.length_take]; omega
      have hln : (ez 0 (z0.take i)).length + [(⟨1, k, 0, (i : Int)⟩ : OpD)].length ≤ 1000000 := by rw [hsl]; simp; omega
      have HLN := Lib.hid hln
      have hnn : (ez 0 (z0.take i)).length + [(⟨1, k, 0, (i : Int)⟩ : OpD)].length = i + 1 := by rw [hsl]; rfl
      have HNN := Lib.hid hnn
      have cw' := fun (W : World) (hW : Prs W aw cw (runP [] (ez 0 (z0.take i)))) => with_is aw cw (runP [] (ez 0 (z0.take i))) k (i : Int) W hW hPl
      unfold WithIs at cw'
      rw [← hrp] at cw'
      have OR := Lib.hid (HE.out.o.below (al1 (.cells #[.int .i64 1, .int .i64 k, .int .i64 0, .int .i64 (i : Int)] 29)))
      have HS := Lib.hid (src_oneO (w := wr) ⟨1, k, 0, (i : Int)⟩)
      have HZ := Lib.hid (show ∀ j, SE w aw j → j < (wr.alloc (.cells #[.int .i64 1, .int .i64 k, .int .i64 0, .int .i64 (i : Int)] 29)).heap.size from fun j hj => by
        rcases hj with hj | ⟨o, sp, hj⟩
        · exact Nat.lt_of_lt_of_le hj (bel1 HE.out.b _).size
        · have := HE.out.q j o sp hj; simp; omega)
      clear hk hsn hrp hsl hln hnn hPl
      go_wp2_with (first
        | (at_builtin; refine wpList_orow rfl _ (.tmp 24) rfl (SE w aw) _ (ez 0 (z0.take i)) [(⟨1, k, 0, (i : Int)⟩ : OpD)] rfl OR.out HZ.out _ rfl HS.out HLN.out _ HNN.out _ HSN.out.1.symm ?_; intro ao4 cp4 w4 hm4 hc4 hR4 hO4; have HR4 := Lib.hid hR4; have HO4 := Lib.hid hO4; have HP4 := Lib.hid (prs_only (HE.out.p.below (al1 (.cells #[.int .i64 1, .int .i64 k, .int .i64 0, .int .i64 (i : Int)] 29))) hO4 (fun _ b o sp e hn => hn (.inr ⟨o, sp, e⟩))); have HB4 := Lib.hid ((bel1 HE.out.b (.cells #[.int .i64 1, .int .i64 k, .int .i64 0, .int .i64 (i : Int)] 29)).trans (hO4.below (B := w.heap.size) (fun j hj => by rcases Nat.lt_or_ge j w.heap.size with h | h; exact absurd (.inl h) hj; exact h) (bel1 HE.out.b _).size)); clear hR4 hO4 hm4 hc4)
        | (go_at_call 21; ((with_reducible refine (cw' _ HP4.out).mono ?_); clear cw'; rintro e w5 ⟨⟨a5, c5, rfl, hR5, hb5⟩, -⟩; have HR5 := Lib.hid hR5; have HB5 := Lib.hid hb5; clear hR5 hb5))
        | fail)
      go_roundw
      case rel =>
        refine ⟨i + 1, cp4, c5, ao4, a5, by have := HLT.out; omega, rfl, rfl, (by first | go_num | (rw [HWJ.out]; go_num)), ⟨((HR4.out.sub (S' := fun j => j < w.heap.size ∨ w4.heap.size ≤ j) (fun k hk hs => hs.elim .inl (fun e => by omega))).below HB5.out).sub (fun k hk hs => ?_), HR5.out.prs rfl, bel2 HB4.out HB5.out, fun j o sp e => by rw [e] at HR5; exact (HR5.out.row.lt j rfl).2⟩⟩
        rcases hs with hs | ⟨o, sp, hs⟩
        · exact .inl hs
        · refine .inr (Nat.le_of_not_lt (fun hl => HR5.out.av k (by rw [hs]; rfl) hl))
      case measure => first | with_reducible exact wm_one HLT.out | with_reducible exact wm_two HLT.out HWJ.out
    · obtain rfl : i = z0.length := by omega
      have hta : z0.take z0.length = z0 := List.take_of_length_le (Nat.le_refl _)
      have ho := HE.out.o
      have hp := HE.out.p
      rw [hta] at ho hp
      obtain ⟨-, hops⟩ := ho.ops HF.out
      have HO := Lib.hid hops
      have HP := Lib.hid hp
      rw [hta] at *
      clear ho hp hops hlt
      go_wp2_with (first
        | (go_at_call 10; ((with_reducible refine (co _).mono ?_); clear co; rintro e W4 ⟨a4, c4, rfl, hn4, hb4⟩; have N4 := Lib.hid hn4; have B4 := Lib.hid hb4; clear hn4 hb4))
        | (go_at_call 22; ((with_reducible refine (eager_any _).mono ?_); rintro e W5 ⟨rfl, hb5⟩; have N5 := Lib.hid (N4.out.keep hb5); have B5 := Lib.hid (bel2 B4.out hb5); clear hb5))
        | (go_at_call 9; ((with_reducible refine (cr _ _ _ _ _ N5.out (HO.out.below B5.out)).mono ?_); clear cr; rintro e W6 ⟨a6, c6, g6, rfl, hn6, -, -, hb6⟩; have B6 := Lib.hid (bel1 (bel2 B5.out hb6) (.cells #[.int .i64 0, .slice a6 (f z0.length).length c6] 25)); have N6 := Lib.hid (hn6.ns.keep (al1 (.cells #[.int .i64 0, .slice a6 (f z0.length).length c6] 25))); have U6 := Lib.hid (Bk.new W6 #[.int .i64 0, .slice a6 (f z0.length).length c6] 25); clear hn6 hb6; have u0 := U6.out.at_ 0 _ rfl; have u1 := U6.out.at_ 1 _ rfl))
        | (go_at_call 23; ((with_reducible refine (ca _ _ _ N6.out).mono ?_); clear ca u0 u1; rintro e W7 ⟨a7, c7, rfl, hR7, hb7⟩; have P7 := Lib.hid (hR7.prs rfl); have B7 := Lib.hid (bel2 B6.out hb7); have N7 := Lib.hid (N6.out.keep hb7); have U7 := Lib.hid (U6.out.keep hb7); clear hR7 hb7; have u0 := U7.out.at_ 0 _ rfl; have u1 := U7.out.at_ 1 _ rfl))
        | (go_at_call 20; ((with_reducible refine (cs _ _ _ _ _ P7.out (HP.out.below B7.out)).mono ?_); clear cs u0 u1; rintro e W8 ⟨rfl, hb8⟩; have B8 := Lib.hid (bel2 B7.out hb8); have N8 := Lib.hid (N7.out.keep hb8); have U8 := Lib.hid (U7.out.keep hb8); clear hb8; have u0 := U8.out.at_ 0 _ rfl; have u1 := U8.out.at_ 1 _ rfl))
        | (go_at_call 13; ((with_reducible refine (cm _ _ _ N8.out).mono ?_); clear cm u0 u1; rintro e W10 ⟨rfl, hb10⟩; have B10 := Lib.hid (bel2 B8.out hb10); clear hb10))
        | (go_at_call 8; ((with_reducible refine (caw _).mono ?_); clear caw; rintro e WA ⟨rfl, hbA⟩; have HA := Lib.hid (bel2 (HE.out.b.trans (B10.out.mono HE.out.b.size)) hbA); clear hbA))
        | fail)
      go_ret
      exact ⟨rfl, HA.out⟩
set_option maxRecDepth 100000 in
set_option maxHeartbeats 12800000 in
theorem walk_b (a0 : Option Addr) (cap0 : Nat) (z0 : List Int) (w : World) (w0 : RI w a0 cap0 z0) (g0 : ∀ n ∈ z0, (Lit.int .i64 n).wf = true) (hn : ¬ 40 < z0.length) (h1 : ¬ (runP [] (ez 0 z0)).length < 2) (h2 : (runP [] (ez 0 z0)).length < z0.length) :
    Calls Try.prog 5 #[.slice a0 z0.length cap0] w fun e w' => e = .returned (.bool true) ∧ Below w.heap.size w w' := by
  have caw := fun W => sawake_any W
  have hn2 : decide ((40 : Int) < (z0.length : Int)) = false := decide_eq_false (by omega)
  have hn3 : z0.length ≤ 40 := by omega
  obtain ⟨f, f0, hf⟩ := chn_ex (h := 1) (l := -1) (cc := 2) (u := -1) (m := 3) (ez 0 z0) aw_t0
  obtain ⟨s, hT, hal, hsz⟩ := oneN_run hf f0
  have hzl : (ez 0 z0).length = z0.length := ez_len 0 z0
  rw [hzl] at hT hal hsz
  have hwf := ez_wf g0 hn3
  have hrl : (runP [] (ez 0 z0)).length ≤ z0.length := by have := runP_le [] (ez 0 z0); rw [hzl] at this; simpa using this
  have cr := fun (W : World) (a oa : Option Addr) (cp ocap : Nat) (hN : Ns W a cp (oneN [])) (hz : Ops W oa ocap (ez 0 z0)) => srun_one a cp 1 (-1) 2 (-1) 3 1 (-1) 2 (-1) 3 oa ocap (ez 0 z0) W hN hz (by omega) (by decide) f f0 hf
  unfold RnIs at cr
  rw [runA_len, hzl] at cr
  have co := fun W => tone_any none 0 [] W (Prs.nil _) (by simp) [] (by simp)
  unfold TnIs at co
  have l1 : (oneN []).length = 1 := rfl
  simp only [l1, List.length_nil] at co
  have hsm : Small (f z0.length) := tr_small hT (by rw [hal]; omega) hT.le
  have ca := fun (W : World) (a : Option Addr) (cp : Nat) (hN : Ns W a cp (f z0.length)) => tall_gen 0 a cp (f z0.length) W hN hsm s.lvs ⟨by have := lvs_len s; have := hT.all; omega, fun i hi => hT.hg.lt i (lvs_pre _ _ hi)⟩ (fun W2 hW2 => tleaves_yes 0 a cp (f z0.length) W2 hW2 hsm s hT)
  rw [hal] at ca
  unfold RowIs trv at ca
  have cv := fun (W : World) (a : Option Addr) (cp : Nat) (hN : Ns W a cp (f z0.length)) => tleaves_yes 0 a cp (f z0.length) W hN hsm s hT
  unfold LvIs trv at cv
  have cm := fun (W : World) (a : Option Addr) (cp : Nat) (hN : Ns W a cp (f z0.length)) => tmay_any 0 a cp (f z0.length) W hN hsm true ⟨fun _ => ⟨s, hT⟩, fun _ => rfl⟩
  unfold trv at cm
  have cs := fun (W : World) (a a2 : Option Addr) (cp cp2 : Nat) (h1 : Prs W a cp (runP [] (ez 0 z0))) (h2 : Prs W a2 cp2 (runP [] (ez 0 z0))) => samep_any a a2 cp cp2 _ _ W h1 h2 true (decide_eq_true rfl)
  have hb1 : decide (((runP [] (ez 0 z0)).length : Int) < 2) = false := by first | exact decide_eq_true (by omega) | exact decide_eq_false (by omega)
  have hb2 : decide (((runP [] (ez 0 z0)).length : Int) < (z0.length : Int)) = true := decide_eq_true (by omega)
  have HH2 := Lib.hid h2
  have HW := Lib.hid w0
  have hc1 := w0.1
  have hc2 := w0.2.1
  unfold maxLen at hc2
  have HF := Lib.hid hwf
  have HE0 := Lib.hid (show EL w z0 w none 0 none 0 0 from ⟨ORow.nil _ _, Prs.nil _, Below.refl _ _, fun j o sp e => by cases e⟩)
  have HRL := Lib.hid (And.intro hrl hzl)
  clear w0 g0 hf f0 hT hal hsz hwf hsm hrl hzl 
  go_enter Try.func5, Try.ntmps5
  go_wp2_with (fail)
  go_loopw [3, 4, 15] (fun x y z wr => ∃ (i cp cw : Nat) (ao aw : Option Addr), i ≤ z0.length ∧ x = .slice ao i cp ∧ y = .slice aw (runP [] (ez 0 (z0.take i))).length cw ∧ z = .int .i64 i ∧ EL w z0 wr ao cp aw cw i) (fun _ _ z _ => z0.length - (intOf z).toNat)
  case atStart => exact ⟨0, 0, 0, none, none, Nat.zero_le _, rfl, rfl, rfl, HE0.out⟩
  case round =>
    clear HE0
    obtain ⟨i, cp, cw, ao, aw, hi, rfl, rfl, rfl, hE⟩ := hrel
    have HE := Lib.hid hE
    clear hE
    by_cases hlt : i < z0.length
    · obtain ⟨k, hk⟩ : ∃ k, z0[i]? = some k := ⟨_, List.getElem?_eq_getElem hlt⟩
      obtain ⟨kb, ko, rfl, ck⟩ := (HW.out.below HE.out.b).2.2 i k hk
      have hltI : (i : Int) < (z0.length : Int) := by omega
      have hi0 : (0 : Int) ≤ (i : Int) := by omega
      have HLT := Lib.hid hlt
      have HWJ := Lib.hid (wq_one hlt (by omega))
      have hsn := ez_snoc hk
      have hrp : runP [] (ez 0 (z0.take (i + 1))) = withL (runP [] (ez 0 (z0.take i))) k (i : Int) := by rw [hsn, runP_snoc]; exact ez_put (runP_s [] _ Srt.nil) k _
      have hPl : (runP [] (ez 0 (z0.take i))).length ≤ 2000000 := by have h1 := runP_le [] (ez 0 (z0.take i)); rw [ez_len, List.length_take] at h1; simp at h1; omega
      have HSN := Lib.hid (And.intro hsn hrp)
      have hsl : (ez 0 (z0.take i)).length = i := by rw [ez_len, List.length_take]; omega
      have hln : (ez 0 (z0.take i)).length + [(⟨1, k, 0, (i : Int)⟩ : OpD)].length ≤ 1000000 := by rw [hsl]; simp; omega
      have HLN := Lib.hid hln
      have hnn : (ez 0 (z0.take i)).length + [(⟨1, k, 0, (i : Int)⟩ : OpD)].length = i + 1 := by rw [hsl]; rfl
      have HNN := Lib.hid hnn
      have cw' := fun (W : World) (hW : Prs W aw cw (runP [] (ez 0 (z0.take i)))) => with_is aw cw (runP [] (ez 0 (z0.take i))) k (i : Int) W hW hPl
      unfold WithIs at cw'
      rw [← hrp] at cw'
      have OR := Lib.hid (HE.out.o.below (al1 (.cells #[.int .i64 1, .int .i64 k, .int .i64 0, .int .i64 (i : Int)] 29)))
      have HS := Lib.hid (src_oneO (w := wr) ⟨1, k, 0, (i : Int)⟩)
      have HZ := Lib.hid (show ∀ j, SE w aw j → j < (wr.alloc (.cells #[.int .i64 1, .int .i64 k, .int .i64 0, .int .i64 (i : Int)] 29)).heap.size from fun j hj => by
        rcases hj with hj | ⟨o, sp, hj⟩
        · exact Nat.lt_of_lt_of_le hj (bel1 HE.out.b _).size
        · have := HE.out.q j o sp hj; simp; omega)
      clear hk hsn hrp hsl hln hnn hPl
      go_wp2_with (first
        | (at_builtin; refine wpList_orow rfl _ (.tmp 24) rfl (SE w aw) _ (ez 0 (z0.take i)) [(⟨1, k, 0, (i : Int)⟩ : OpD)] rfl OR.out HZ.out _ rfl HS.out HLN.out _ HNN.out _ HSN.out.1.symm ?_; intro ao4 cp4 w4 hm4 hc4 hR4 hO4; have HR4 := Lib.hid hR4; have HO4 := Lib.hid hO4; have HP4 := Lib.hid (prs_only (HE.out.p.below (al1 (.cells #[.int .i64 1, .int .i64 k, .int .i64 0, .int .i64 (i : Int)] 29))) hO4 (fun _ b o sp e hn => hn (.inr ⟨o, sp, e⟩))); have HB4 := Lib.hid ((bel1 HE.out.b (.cells #[.int .i64 1, .int .i64 k, .int .i64 0, .int .i64 (i : Int)] 29)).trans (hO4.below (B := w.heap.size) (fun j hj => by rcases Nat.lt_or_ge j w.heap.size with h | h; exact absurd (.inl h) hj; exact h) (bel1 HE.out.b _).size)); clear hR4 hO4 hm4 hc4)
        | (go_at_call 21; ((with_reducible refine (cw' _ HP4.out).mono ?_); clear cw'; rintro e w5 ⟨⟨a5, c5, rfl, hR5, hb5⟩, -⟩; have HR5 := Lib.hid hR5; have HB5 := Lib.hid hb5; clear hR5 hb5))
        | fail)
      go_roundw
      case rel =>
        refine ⟨i + 1, cp4, c5, ao4, a5, by have := HLT.out; omega, rfl, rfl, (by first | go_num | (rw [HWJ.out]; go_num)), ⟨((HR4.out.sub (S' := fun j => j < w.heap.size ∨ w4.heap.size ≤ j) (fun k hk hs => hs.elim .inl (fun e => by omega))).below HB5.out).sub (fun k hk hs => ?_), HR5.out.prs rfl, bel2 HB4.out HB5.out, fun j o sp e => by rw [e] at HR5; exact (HR5.out.row.lt j rfl).2⟩⟩
        rcases hs with hs | ⟨o, sp, hs⟩
        · exact .inl hs
        · refine .inr (Nat.le_of_not_lt (fun hl => HR5.out.av k (by rw [hs]; rfl) hl))
      case measure => first | with_reducible exact wm_one HLT.out | with_reducible exact wm_two HLT.out HWJ.out
    · obtain rfl : i = z0.length := by omega
      have hta : z0.take z0.length = z0 := List.take_of_length_le (Nat.le_refl _)
      have ho := HE.out.o
      have hp := HE.out.p
      rw [hta] at ho hp
      obtain ⟨-, hops⟩ := ho.ops HF.out
      have HO := Lib.hid hops
      have HP := Lib.hid hp
      rw [hta] at *
      clear ho hp hops hlt
      go_wp2_with (first
        | (go_at_call 10; ((with_reducible refine (co _).mono ?_); clear co; rintro e W4 ⟨a4, c4, rfl, hn4, hb4⟩; have N4 := Lib.hid hn4; have B4 := Lib.hid hb4; clear hn4 hb4))
        | (go_at_call 22; ((with_reducible refine (eager_any _).mono ?_); rintro e W5 ⟨rfl, hb5⟩; have N5 := Lib.hid (N4.out.keep hb5); have B5 := Lib.hid (bel2 B4.out hb5); clear hb5))
        | (go_at_call 9; ((with_reducible refine (cr _ _ _ _ _ N5.out (HO.out.below B5.out)).mono ?_); clear cr; rintro e W6 ⟨a6, c6, g6, rfl, hn6, -, -, hb6⟩; have B6 := Lib.hid (bel1 (bel2 B5.out hb6) (.cells #[.int .i64 0, .slice a6 (f z0.length).length c6] 25)); have N6 := Lib.hid (hn6.ns.keep (al1 (.cells #[.int .i64 0, .slice a6 (f z0.length).length c6] 25))); have U6 := Lib.hid (Bk.new W6 #[.int .i64 0, .slice a6 (f z0.length).length c6] 25); clear hn6 hb6; have u0 := U6.out.at_ 0 _ rfl; have u1 := U6.out.at_ 1 _ rfl))
        | (go_at_call 23; ((with_reducible refine (ca _ _ _ N6.out).mono ?_); clear ca u0 u1; rintro e W7 ⟨a7, c7, rfl, hR7, hb7⟩; have P7 := Lib.hid (hR7.prs rfl); have B7 := Lib.hid (bel2 B6.out hb7); have N7 := Lib.hid (N6.out.keep hb7); have U7 := Lib.hid (U6.out.keep hb7); clear hR7 hb7; have u0 := U7.out.at_ 0 _ rfl; have u1 := U7.out.at_ 1 _ rfl))
        | (go_at_call 20; ((with_reducible refine (cs _ _ _ _ _ P7.out (HP.out.below B7.out)).mono ?_); clear cs u0 u1; rintro e W8 ⟨rfl, hb8⟩; have B8 := Lib.hid (bel2 B7.out hb8); have N8 := Lib.hid (N7.out.keep hb8); have U8 := Lib.hid (U7.out.keep hb8); clear hb8; have u0 := U8.out.at_ 0 _ rfl; have u1 := U8.out.at_ 1 _ rfl))
        | (go_at_call 13; ((with_reducible refine (cm _ _ _ N8.out).mono ?_); clear cm u0 u1; rintro e W10 ⟨rfl, hb10⟩; have B10 := Lib.hid (bel2 B8.out hb10); clear hb10))
        | (go_at_call 8; ((with_reducible refine (caw _).mono ?_); clear caw; rintro e WA ⟨rfl, hbA⟩; have HA := Lib.hid (bel2 (HE.out.b.trans (B10.out.mono HE.out.b.size)) hbA); clear hbA))
        | fail)
      go_ret
      exact ⟨rfl, HA.out⟩
set_option maxRecDepth 100000 in
set_option maxHeartbeats 12800000 in
theorem walk_c (a0 : Option Addr) (cap0 : Nat) (z0 : List Int) (w : World) (w0 : RI w a0 cap0 z0) (g0 : ∀ n ∈ z0, (Lit.int .i64 n).wf = true) (hn : ¬ 40 < z0.length) (h1 : ¬ (runP [] (ez 0 z0)).length < 2) (h2 : ¬ (runP [] (ez 0 z0)).length < z0.length) :
    Calls Try.prog 5 #[.slice a0 z0.length cap0] w fun e w' => e = .returned (.bool true) ∧ Below w.heap.size w w' := by
  have caw := fun W => sawake_any W
  have hn2 : decide ((40 : Int) < (z0.length : Int)) = false := decide_eq_false (by omega)
  have hn3 : z0.length ≤ 40 := by omega
  obtain ⟨f, f0, hf⟩ := chn_ex (h := 1) (l := -1) (cc := 2) (u := -1) (m := 3) (ez 0 z0) aw_t0
  obtain ⟨s, hT, hal, hsz⟩ := oneN_run hf f0
  have hzl : (ez 0 z0).length = z0.length := ez_len 0 z0
  rw [hzl] at hT hal hsz
  have hwf := ez_wf g0 hn3
  have hrl : (runP [] (ez 0 z0)).length ≤ z0.length := by have := runP_le [] (ez 0 z0); rw [hzl] at this; simpa using this
  have cr := fun (W : World) (a oa : Option Addr) (cp ocap : Nat) (hN : Ns W a cp (oneN [])) (hz : Ops W oa ocap (ez 0 z0)) => srun_one a cp 1 (-1) 2 (-1) 3 1 (-1) 2 (-1) 3 oa ocap (ez 0 z0) W hN hz (by omega) (by decide) f f0 hf
  unfold RnIs at cr
  rw [runA_len, hzl] at cr
  have co := fun W => tone_any none 0 [] W (Prs.nil _) (by simp) [] (by simp)
  unfold TnIs at co
  have l1 : (oneN []).length = 1 := rfl
  simp only [l1, List.length_nil] at co
  have hsm : Small (f z0.length) := tr_small hT (by rw [hal]; omega) hT.le
  have ca := fun (W : World) (a : Option Addr) (cp : Nat) (hN : Ns W a cp (f z0.length)) => tall_gen 0 a cp (f z0.length) W hN hsm s.lvs ⟨by have := lvs_len s; have := hT.all; omega, fun i hi => hT.hg.lt i (lvs_pre _ _ hi)⟩ (fun W2 hW2 => tleaves_yes 0 a cp (f z0.length) W2 hW2 hsm s hT)
  rw [hal] at ca
  unfold RowIs trv at ca
  have cv := fun (W : World) (a : Option Addr) (cp : Nat) (hN : Ns W a cp (f z0.length)) => tleaves_yes 0 a cp (f z0.length) W hN hsm s hT
  unfold LvIs trv at cv
  have cm := fun (W : World) (a : Option Addr) (cp : Nat) (hN : Ns W a cp (f z0.length)) => tmay_any 0 a cp (f z0.length) W hN hsm true ⟨fun _ => ⟨s, hT⟩, fun _ => rfl⟩
  unfold trv at cm
  have cs := fun (W : World) (a a2 : Option Addr) (cp cp2 : Nat) (h1 : Prs W a cp (runP [] (ez 0 z0))) (h2 : Prs W a2 cp2 (runP [] (ez 0 z0))) => samep_any a a2 cp cp2 _ _ W h1 h2 true (decide_eq_true rfl)
  have hb1 : decide (((runP [] (ez 0 z0)).length : Int) < 2) = false := by first | exact decide_eq_true (by omega) | exact decide_eq_false (by omega)
  have hb2 : decide (((runP [] (ez 0 z0)).length : Int) < (z0.length : Int)) = false := decide_eq_false (by omega)
  have h3 := eager_two hf f0 hn3 (by omega) (by omega) hT
  have hb3 : decide ((2 : Int) ≤ (s.lvs.length : Int)) = true := decide_eq_true (by omega)
  have HW := Lib.hid w0
  have hc1 := w0.1
  have hc2 := w0.2.1
  unfold maxLen at hc2
  have HF := Lib.hid hwf
  have HE0 := Lib.hid (show EL w z0 w none 0 none 0 0 from ⟨ORow.nil _ _, Prs.nil _, Below.refl _ _, fun j o sp e => by cases e⟩)
  have HRL := Lib.hid (And.intro hrl hzl)
  clear w0 g0 hf f0 hT hal hsz hwf hsm hrl hzl 
  go_enter Try.func5, Try.ntmps5
  go_wp2_with (fail)
  go_loopw [3, 4, 15] (fun x y z wr => ∃ (i cp cw : Nat) (ao aw : Option Addr), i ≤ z0.length ∧ x = .slice ao i cp ∧ y = .slice aw (runP [] (ez 0 (z0.take i))).length cw ∧ z = .int .i64 i ∧ EL w z0 wr ao cp aw cw i) (fun _ _ z _ => z0.length - (intOf z).toNat)
  case atStart => exact ⟨0, 0, 0, none, none, Nat.zero_le _, rfl, rfl, rfl, HE0.out⟩
  case round =>
    clear HE0
    obtain ⟨i, cp, cw, ao, aw, hi, rfl, rfl, rfl, hE⟩ := hrel
    have HE := Lib.hid hE
    clear hE
    by_cases hlt : i < z0.length
    · obtain ⟨k, hk⟩ : ∃ k, z0[i]? = some k := ⟨_, List.getElem?_eq_getElem hlt⟩
      obtain ⟨kb, ko, rfl, ck⟩ := (HW.out.below HE.out.b).2.2 i k hk
      have hltI : (i : Int) < (z0.length : Int) := by omega
      have hi0 : (0 : Int) ≤ (i : Int) := by omega
      have HLT := Lib.hid hlt
      have HWJ := Lib.hid (wq_one hlt (by omega))
      have hsn := ez_snoc hk
      have hrp : runP [] (ez 0 (z0.take (i + 1))) = withL (runP [] (ez 0 (z0.take i))) k (i : Int) := by rw [hsn, runP_snoc]; exact ez_put (runP_s [] _ Srt.nil) k _
      have hPl : (runP [] (ez 0 (z0.take i))).length ≤ 2000000 := by have h1 := runP_le [] (ez 0 (z0.take i)); rw [ez_len, List.length_take] at h1; simp at h1; omega
      have HSN := Lib.hid (And.intro hsn hrp)
      have hsl : (ez 0 (z0.take i)).length = i := by rw [ez_len, List.length_take]; omega
      have hln : (ez 0 (z0.take i)).length + [(⟨1, k, 0, (i : Int)⟩ : OpD)].length ≤ 1000000 := by rw [hsl]; simp; omega
      have HLN := Lib.hid hln
      have hnn : (ez 0 (z0.take i)).length + [(⟨1, k, 0, (i : Int)⟩ : OpD)].length = i + 1 := by rw [hsl]; rfl
      have HNN := Lib.hid hnn
      have cw' := fun (W : World) (hW : Prs W aw cw (runP [] (ez 0 (z0.take i)))) => with_is aw cw (runP [] (ez 0 (z0.take i))) k (i : Int) W hW hPl
      unfold WithIs at cw'
      rw [← hrp] at cw'
      have OR := Lib.hid (HE.out.o.below (al1 (.cells #[.int .i64 1, .int .i64 k, .int .i64 0, .int .i64 (i : Int)] 29)))
      have HS := Lib.hid (src_oneO (w := wr) ⟨1, k, 0, (i : Int)⟩)
      have HZ := Lib.hid (show ∀ j, SE w aw j → j < (wr.alloc (.cells #[.int .i64 1, .int .i64 k, .int .i64 0, .int .i64 (i : Int)] 29)).heap.size from fun j hj => by
        rcases hj with hj | ⟨o, sp, hj⟩
        · exact Nat.lt_of_lt_of_le hj (bel1 HE.out.b _).size
        · have := HE.out.q j o sp hj; simp; omega)
      clear hk hsn hrp hsl hln hnn hPl
      go_wp2_with (first
        | (at_builtin; refine wpList_orow rfl _ (.tmp 24) rfl (SE w aw) _ (ez 0 (z0.take i)) [(⟨1, k, 0, (i : Int)⟩ : OpD)] rfl OR.out HZ.out _ rfl HS.out HLN.out _ HNN.out _ HSN.out.1.symm ?_; intro ao4 cp4 w4 hm4 hc4 hR4 hO4; have HR4 := Lib.hid hR4; have HO4 := Lib.hid hO4; have HP4 := Lib.hid (prs_only (HE.out.p.below (al1 (.cells #[.int .i64 1, .int .i64 k, .int .i64 0, .int .i64 (i : Int)] 29))) hO4 (fun _ b o sp e hn => hn (.inr ⟨o, sp, e⟩))); have HB4 := Lib.hid ((bel1 HE.out.b (.cells #[.int .i64 1, .int .i64 k, .int .i64 0, .int .i64 (i : Int)] 29)).trans (hO4.below (B := w.heap.size) (fun j hj => by rcases Nat.lt_or_ge j w.heap.size with h | h; exact absurd (.inl h) hj; exact h) (bel1 HE.out.b _).size)); clear hR4 hO4 hm4 hc4)
        | (go_at_call 21; ((with_reducible refine (cw' _ HP4.out).mono ?_); clear cw'; rintro e w5 ⟨⟨a5, c5, rfl, hR5, hb5⟩, -⟩; have HR5 := Lib.hid hR5; have HB5 := Lib.hid hb5; clear hR5 hb5))
        | fail)
      go_roundw
      case rel =>
        refine ⟨i + 1, cp4, c5, ao4, a5, by have := HLT.out; omega, rfl, rfl, (by first | go_num | (rw [HWJ.out]; go_num)), ⟨((HR4.out.sub (S' := fun j => j < w.heap.size ∨ w4.heap.size ≤ j) (fun k hk hs => hs.elim .inl (fun e => by omega))).below HB5.out).sub (fun k hk hs => ?_), HR5.out.prs rfl, bel2 HB4.out HB5.out, fun j o sp e => by rw [e] at HR5; exact (HR5.out.row.lt j rfl).2⟩⟩
        rcases hs with hs | ⟨o, sp, hs⟩
        · exact .inl hs
        · refine .inr (Nat.le_of_not_lt (fun hl => HR5.out.av k (by rw [hs]; rfl) hl))
      case measure => first | with_reducible exact wm_one HLT.out | with_reducible exact wm_two HLT.out HWJ.out
    · obtain rfl : i = z0.length := by omega
      have hta : z0.take z0.length = z0 := List.take_of_length_le (Nat.le_refl _)
      have ho := HE.out.o
      have hp := HE.out.p
      rw [hta] at ho hp
      obtain ⟨-, hops⟩ := ho.ops HF.out
      have HO := Lib.hid hops
      have HP := Lib.hid hp
      rw [hta] at *
      clear ho hp hops hlt
      go_wp2_with (first
        | (go_at_call 10; ((with_reducible refine (co _).mono ?_); clear co; rintro e W4 ⟨a4, c4, rfl, hn4, hb4⟩; have N4 := Lib.hid hn4; have B4 := Lib.hid hb4; clear hn4 hb4))
        | (go_at_call 22; ((with_reducible refine (eager_any _).mono ?_); rintro e W5 ⟨rfl, hb5⟩; have N5 := Lib.hid (N4.out.keep hb5); have B5 := Lib.hid (bel2 B4.out hb5); clear hb5))
        | (go_at_call 9; ((with_reducible refine (cr _ _ _ _ _ N5.out (HO.out.below B5.out)).mono ?_); clear cr; rintro e W6 ⟨a6, c6, g6, rfl, hn6, -, -, hb6⟩; have B6 := Lib.hid (bel1 (bel2 B5.out hb6) (.cells #[.int .i64 0, .slice a6 (f z0.length).length c6] 25)); have N6 := Lib.hid (hn6.ns.keep (al1 (.cells #[.int .i64 0, .slice a6 (f z0.length).length c6] 25))); have U6 := Lib.hid (Bk.new W6 #[.int .i64 0, .slice a6 (f z0.length).length c6] 25); clear hn6 hb6; have u0 := U6.out.at_ 0 _ rfl; have u1 := U6.out.at_ 1 _ rfl))
        | (go_at_call 23; ((with_reducible refine (ca _ _ _ N6.out).mono ?_); clear ca u0 u1; rintro e W7 ⟨a7, c7, rfl, hR7, hb7⟩; have P7 := Lib.hid (hR7.prs rfl); have B7 := Lib.hid (bel2 B6.out hb7); have N7 := Lib.hid (N6.out.keep hb7); have U7 := Lib.hid (U6.out.keep hb7); clear hR7 hb7; have u0 := U7.out.at_ 0 _ rfl; have u1 := U7.out.at_ 1 _ rfl))
        | (go_at_call 20; ((with_reducible refine (cs _ _ _ _ _ P7.out (HP.out.below B7.out)).mono ?_); clear cs u0 u1; rintro e W8 ⟨rfl, hb8⟩; have B8 := Lib.hid (bel2 B7.out hb8); have N8 := Lib.hid (N7.out.keep hb8); have U8 := Lib.hid (U7.out.keep hb8); clear hb8; have u0 := U8.out.at_ 0 _ rfl; have u1 := U8.out.at_ 1 _ rfl))
        | (go_at_call 19; ((with_reducible refine (cv _ _ _ N8.out).mono ?_); clear cv u0 u1; rintro e W9 ⟨a9, c9, rfl, -, hb9⟩; have B9 := Lib.hid (bel2 B8.out hb9); have N9 := Lib.hid (N8.out.keep hb9); have U9 := Lib.hid (U8.out.keep hb9); clear hb9; have u0 := U9.out.at_ 0 _ rfl; have u1 := U9.out.at_ 1 _ rfl))
        | (go_at_call 13; ((with_reducible refine (cm _ _ _ N9.out).mono ?_); clear cm u0 u1; rintro e W10 ⟨rfl, hb10⟩; have B10 := Lib.hid (bel2 B9.out hb10); clear hb10))
        | (go_at_call 8; ((with_reducible refine (caw _).mono ?_); clear caw; rintro e WA ⟨rfl, hbA⟩; have HA := Lib.hid (bel2 (HE.out.b.trans (B10.out.mono HE.out.b.size)) hbA); clear hbA))
        | fail)
      go_ret
      exact ⟨rfl, HA.out⟩

theorem walk (a0 : Option Addr) (cap0 : Nat) (z0 : List Int) (w : World) (w0 : RI w a0 cap0 z0) (g0 : ∀ n ∈ z0, (Lit.int .i64 n).wf = true) :
    Calls Try.prog 5 #[.slice a0 z0.length cap0] w fun e w' => e = .returned (.bool true) ∧ Below w.heap.size w w' := by
  by_cases hn : 40 < z0.length
  · exact walk_long a0 cap0 z0 w w0 g0 hn
  by_cases h1 : (runP [] (ez 0 z0)).length < 2
  · exact walk_a a0 cap0 z0 w w0 g0 hn h1
  by_cases h2 : (runP [] (ez 0 z0)).length < z0.length
  · exact walk_b a0 cap0 z0 w w0 g0 hn h1 h2
  · exact walk_c a0 cap0 z0 w w0 g0 hn h1 h2

set_option maxRecDepth 100000 in
theorem lifted (os : Os) (started : os.Started) (H : Type) (enc : TypeId × Value → H) :
    ReturnsInHanded {} Try.checked os 5 .any (Rows.soloEagerSpec.pre6 enc Try.prog Try.f5 Rows.soloEagerRow.domain false) (Rows.soloEagerSpec.post enc Try.prog Try.f5 false true false false) := by
  refine returnsInHanded_of_change (C := Try.checked) own started (by kernel_rfl) Try.func5
    (ChangeSpec.witness6 (enc := enc) (C := Try.checked) false ⟨#[], #[.slice none 0 0], []⟩ 8 (by kernel_rfl) (by kernel_rfl) (by kernel_rfl) (by kernel_rfl)) ?_
  intro W base args ds gs before hval0 hW hcnd _
  have hval : ∀ (j : Nat) t v, Try.f5.params[j]? = some t → args[j]? = some v → Value.okWide Try.prog W .any base t v := hval0
  have hW' := hW
  obtain ⟨p, q, hA0, hV, rfl, hfz, hnd⟩ := hW
  have hA : DataW.TrodAll enc Try.prog W 0 (fun _ => true) true Try.f5.params.toList args.toList ds p := hA0
  rw [Try.params5] at hA hval
  obtain ⟨v0, vs0, d0, ds0, p0, q0, hargs, rfl, rfl, h0, r0⟩ := trodAll_cons hA
  obtain ⟨rfl, rfl, rfl⟩ := trodAll_nil r0
  obtain rfl : args = #[v0] := by cases args; simp_all
  obtain ⟨rfl, rfl⟩ := trodVars_none hV
  have k0 := h0
  have lt0 : ∀ x ∈ p0, x.block < W.heap.size := by obtain ⟨m, hm⟩ := k0; exact DataW.trod_lt m _ _ _ hm
  obtain ⟨b0, l0, c0, rfl⟩ := okWide_slice Try.underlying54 (hval 0 54 v0 rfl rfl)
  obtain ⟨a0, cap0, z0, e0, w0, g0⟩ := open_riw (enc := enc) (w := W) (v := .slice b0 l0 c0) (fuel := h0.choose) (by simpa [Value.cells] using h0.choose_spec)
  rw [e0] at hval k0 h0 hW' hval0 hA0
  clear hA0 hval0
  rw [e0]; refine (walk a0 cap0 z0 W w0 g0).mono fun e W' ⟨he, bel⟩ => ?_
  subst he
  exact ⟨_, rfl, _, _, _, [], _, [], hW', trodAll_mk1 (shut_bool Try.underlying4 _), (trodAll_cons_mk (Below.trod laidOut (by kernel_rfl) (of_decide_eq_true (by kernel_rfl)) k0 bel lt0) trodAll_mk0), rfl, bel.frame _, fun h => by cases h⟩

theorem over : Rows.soloEagerRow.holds Try.pinned (OpenSpec.ofChange Rows.soloEagerSpec) :=
  OpenClaim.holds_of_wide 5 Try.f5 rfl rfl rfl rfl rfl rfl rfl ⟨rfl, rfl, rfl, rfl, rfl⟩ rfl rfl rfl rfl rfl (by kernel_rfl) Try.func5 (by kernel_rfl)
    (of_decide_eq_true (by kernel_rfl)) (by unfold Func.isWrapper; first | (rw [if_pos (by decide +kernel)]; kernel_rfl) | (rw [if_neg (by decide +kernel)]; exact ⟨rfl, rfl⟩))
    (fun os started H enc _ => lifted os started H enc)

theorem soloEagerHolds : Rows.SoloEagerSaid := over
#print axioms soloEagerHolds
end Go.Proofs.Ytpdliokpbnpppaa.soloEager

