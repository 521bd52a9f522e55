/- SoloJoins (P17.2), where what it reads is of bulk 1048576 at most: where uncontended updates take away, leaves come together again: as many updates as there are leaves, twice over, and one is left. Condition: that of the form (what is read is of the said bulk). -/
import Derived.Test.YtpdliokpbnpppaaRows
import Derived.Test.YtpdliokpbnpppaaExB
import Derived.Test.YtpdliokpbnpppaaSlK
import Derived.Test.YtpdliokpbnpppaaTsP
import Derived.OwnWalk
import Derived.LoopTactic
import Derived.WalkKit
import Derived.ProofKit
import Derived.OpenShut
import Derived.ChangeOld
import Derived.Below
import Derived.JoinedCond
import Derived.Deep.CondSized
namespace Go.Proofs.Ytpdliokpbnpppaa.soloJoins
open Go.ChangeShapes Go.WideShapes Go.ChangeAt Go.RowKit
set_option linter.all false

theorem own : ownKnob Try.prog.godebug = none := by kernel_rfl
theorem laidOut : laidOutB Try.prog = true := by kernel_rfl

set_option maxRecDepth 100000 in
set_option maxHeartbeats 12800000 in
theorem walk_long (t0 : Int) (a0 : Option Addr) (cap0 : Nat) (N0 : List Nd) (a1 : Int) (w : World) (w0 : Ns w a0 cap0 N0) (u0 : bsum N0 ≤ 1048576) (w1 : (Lit.int .i64 a1).wf = true) (hn : 60 < N0.length) :
    Calls Try.prog 6 #[.agg #[.int .i64 t0, .slice a0 N0.length cap0], .int .i64 a1] w fun e w' => e = .returned (.bool true) ∧ Below w.heap.size w w' := by
  have caw := fun W => sawake_any W
  have q0 := Tq.new w t0 a0 N0.length cap0
  have hb0 := al1 (w := w) (.cells #[.int .i64 t0, .slice a0 N0.length cap0] 25)
  have g0 := q0.c0
  have g1 := q0.c1
  have hn2 : decide ((60 : Int) < (N0.length : Int)) = true := decide_eq_true (by omega)
  have HB := Lib.hid hb0
  clear w0 u0 w1 q0 hb0
  go_enter Try.func6, Try.ntmps6
  go_wp2_with (go_at_call 8; ((with_reducible refine (caw _).mono ?_); clear caw; rintro e WA ⟨rfl, hbA⟩; have HA := Lib.hid (bel2 HB.out hbA); clear hbA))
  go_ret
  exact ⟨rfl, HA.out⟩
set_option maxRecDepth 100000 in
set_option maxHeartbeats 12800000 in
theorem walk_none (t0 : Int) (a0 : Option Addr) (cap0 : Nat) (N0 : List Nd) (a1 : Int) (w : World) (w0 : Ns w a0 cap0 N0) (u0 : bsum N0 ≤ 1048576) (w1 : (Lit.int .i64 a1).wf = true) (hn : ¬ 60 < N0.length) (hT : ∀ s, ¬ Tr N0 s t0) :
    Calls Try.prog 6 #[.agg #[.int .i64 t0, .slice a0 N0.length cap0], .int .i64 a1] w fun e w' => e = .returned (.bool true) ∧ Below w.heap.size w w' := by
  have caw := fun W => sawake_any W
  have q0 := Tq.new w t0 a0 N0.length cap0
  have hb0 := al1 (w := w) (.cells #[.int .i64 t0, .slice a0 N0.length cap0] 25)
  have g0 := q0.c0
  have g1 := q0.c1
  have hn2 : decide ((60 : Int) < (N0.length : Int)) = false := decide_eq_false (by omega)
  have hsm : Small N0 := ⟨by omega, fun n hn => by have := bsum_mem hn; omega⟩
  have cm := fun (W : World) (h : Ns W a0 cap0 N0) => tmay_any t0 a0 cap0 N0 W h hsm false ⟨fun h => (by cases h), fun ⟨s, hs⟩ => absurd hs (hT s)⟩
  unfold trv at cm
  have N1 := Lib.hid (w0.keep hb0)
  have HB := Lib.hid hb0
  clear w0 u0 w1 q0 hb0 hT hsm
  go_enter Try.func6, Try.ntmps6
  go_wp2_with (first
    | (go_at_call 13; ((with_reducible refine (cm _ N1.out).mono ?_); clear cm g0 g1; rintro e W3 ⟨rfl, hb3⟩; have B3 := Lib.hid (bel2 HB.out hb3); clear hb3))
    | (go_at_call 8; ((with_reducible refine (caw _).mono ?_); clear caw; rintro e WA ⟨rfl, hbA⟩; have HA := Lib.hid (bel2 B3.out hbA); clear hbA))
    | fail)
  go_ret
  exact ⟨rfl, HA.out⟩
set_option maxRecDepth 100000 in
set_option maxHeartbeats 12800000 in
theorem walk_main (t0 : Int) (a0 : Option Addr) (cap0 : Nat) (N0 : List Nd) (a1 : Int) (w : World) (w0 : Ns w a0 cap0 N0) (u0 : bsum N0 ≤ 1048576) (w1 : (Lit.int .i64 a1).wf = true) (hn : ¬ 60 < N0.length) (s : Sh) (hT : Tr N0 s t0) :
    Calls Try.prog 6 #[.agg #[.int .i64 t0, .slice a0 N0.length cap0], .int .i64 a1] w fun e w' => e = .returned (.bool true) ∧ Below w.heap.size w w' := by
  have caw := fun W => sawake_any W
  have q0 := Tq.new w t0 a0 N0.length cap0
  have hb0 := al1 (w := w) (.cells #[.int .i64 t0, .slice a0 N0.length cap0] 25)
  have g0 := q0.c0
  have g1 := q0.c1
  have hn2 : decide ((60 : Int) < (N0.length : Int)) = false := decide_eq_false (by omega)
  have hsm : Small N0 := ⟨by omega, fun n hn => by have := bsum_mem hn; omega⟩
  have cm := fun (W : World) (h : Ns W a0 cap0 N0) => tmay_any t0 a0 cap0 N0 W h hsm true ⟨fun _ => ⟨s, hT⟩, fun _ => rfl⟩
  unfold trv at cm
  have hPl : (lay N0 s 0).length ≤ 100000000000 := by rw [lay_len, hT.all]; omega
  have cs := fun (W : World) (h : Ns W a0 cap0 N0) => rsametree_gen t0 t0 a0 a0 cap0 cap0 N0 N0 W h h true true _ _ hPl hPl (rp_any hsm (.inl ⟨s, hT, rfl, rfl⟩)) (rp_any hsm (.inl ⟨s, hT, rfl, rfl⟩)) true ⟨fun _ => ⟨rfl, rfl, rfl⟩, fun _ => rfl⟩
  unfold trv at cs
  have cv := fun (W : World) (h : Ns W a0 cap0 N0) => tleaves_own t0 a0 cap0 N0 W h hsm s hT
  unfold LvW trv at cv
  have hnl : s.lvs.length ≤ 60 := by have := lvs_len s; have := hT.all; omega
  have hnp := lvs_pos s
  obtain ⟨l0, hl0⟩ : ∃ i, s.lvs[0]? = some i := ⟨_, List.getElem?_eq_getElem hnp⟩
  have HL0 := Lib.hid hl0
  have HT := Lib.hid hT
  have HNN := Lib.hid (show N0.length ≤ 60 by omega)
  have HU := Lib.hid (show (allP N0 s.lvs).length ≤ 1048576 from Nat.le_trans (allP_bsum (lvs_nodup hT.nd)) u0)
  have N1 := Lib.hid (w0.keep hb0)
  have Q0 := Lib.hid q0
  have HB := Lib.hid hb0
  have HWO := Lib.hid (show (⟨3, a1, 0, 0⟩ : OpD).wf from ⟨rfl, w1, rfl, rfl⟩)
  clear w0 u0 w1 q0 hb0 hT hsm hPl hl0
  go_enter Try.func6, Try.ntmps6
  go_wp2_with (first
    | (go_at_call 13; ((with_reducible refine (cm _ N1.out).mono ?_); clear cm g0 g1; rintro e W3 ⟨rfl, hb3⟩; have B3 := Lib.hid (bel2 HB.out hb3); have N3 := Lib.hid (N1.out.keep hb3); have Q3 := Lib.hid (Q0.out.keep hb3); clear hb3; have g0 := Q3.out.c0; have g1 := Q3.out.c1))
    | (go_at_call 15; ((with_reducible refine (cs _ N3.out).mono ?_); clear cs g0 g1; rintro e W4 ⟨rfl, hb4⟩; have B4 := Lib.hid (bel2 B3.out hb4); have N4 := Lib.hid (N3.out.keep hb4); have Q4 := Lib.hid (Q3.out.keep hb4); clear hb4; have g0 := Q4.out.c0; have g1 := Q4.out.c1))
    | (go_at_call 19; ((with_reducible refine (cv _ N4.out).mono ?_); clear cv g0 g1; rintro e W5 ⟨al, cl, rfl, hr5, ho5, hb5⟩; obtain ⟨lb, lo, rfl, _⟩ := ri_atK hr5 HL0.out; have hlb := ho5 lb lo none rfl; have HLB := Lib.hid (show lb ≠ w.heap.size by have h1 := Q4.out.lt; omega); have hrc := hr5.1; have hrm := hr5.2.1; unfold maxLen at hrm; rw [preI_len] at hrc; have J5 := Lib.hid (show J1 w t0 lb lo cl s.lvs a0 cap0 N0 W5 from ⟨Q4.out.keep hb5, N4.out.keep hb5, hr5, bel2 B4.out hb5⟩); clear hr5 ho5 hb5 hlb))
    | fail)
  go_loopw [33] (fun x wr => ∃ (i : Nat) (a : Option Addr) (cap : Nat), i ≤ s.lvs.length ∧ x = .int .i64 i ∧ J1 w t0 lb lo cl s.lvs a cap (z0N N0 (s.lvs.take i)) wr) (fun x _ => s.lvs.length - (intOf x).toNat)
  case atStart => exact ⟨0, a0, cap0, Nat.zero_le _, rfl, J5.out⟩
  case round =>
    clear J5
    obtain ⟨i, a, cap, hi, rfl, hJ⟩ := hrel
    by_cases hlt : i < s.lvs.length
    · obtain ⟨jx, hjx⟩ : ∃ j, s.lvs[i]? = some j := ⟨_, List.getElem?_eq_getElem hlt⟩
      have hst := z0_step HT.out hjx
      obtain ⟨b7, o7, e7, c7⟩ := ri_atK hJ.r hjx
      cases e7
      have hZ := (z0_tr HT.out i)
      have hjl : jx < (z0N N0 (s.lvs.take i)).length := hZ.hg.lt jx (lvs_pre _ _ (List.mem_of_getElem? hjx))
      have hzl : (z0N N0 (s.lvs.take i)).length = N0.length := stN_len
      have hzs : Small (z0N N0 (s.lvs.take i)) := tr_small hZ (by rw [z0_all HT.out]; have := HU.out; omega) (by rw [hzl]; have := HNN.out; omega)
      obtain ⟨b, o, pa, pc, rfl, hna⟩ := hJ.n.2.2 jx _ (nd_get hjl)
      have c4 := hna.c4
      have hps := hna.ps
      have hpl : (nd (z0N N0 (s.lvs.take i)) jx).p.length ≤ 1100000 := hzs.at (nd_get hjl)
      have k0 := hJ.q.c0
      have k1 := hJ.q.c1
      have hc1 := hJ.n.1
      have hc2 := hJ.n.2.1
      unfold maxLen at hc2
      generalize hlp : (nd (z0N N0 (s.lvs.take i)) jx).p = lp at *
      generalize hQ : z0N N0 (s.lvs.take (i + 1)) = Q at *
      generalize hNN : z0N N0 (s.lvs.take i) = NN at *
      have ct := fun (W : World) (h : Ns W (some ⟨b, o, none⟩) cap NN) (hb : Below wr.heap.size wr W) => tset_any t0 (some ⟨b, o, none⟩) cap NN (jx : Int) pa pc lp 0 W h hzs (hps.below hb) hpl t0 Q true hst
      unfold SetIs trv at ct
      have hltI : (i : Int) < (s.lvs.length : Int) := by omega
      have hi0 : (0 : Int) ≤ (i : Int) := by omega
      have hj0 : (0 : Int) ≤ (jx : Int) := by omega
      have hjI : (jx : Int) < (NN.length : Int) := by omega
      have hp1 := hps.1
      have hp2 := hps.2.1
      unfold maxLen at hp2
      have JH := Lib.hid hJ
      have HLT := Lib.hid hlt
      have HWJ := Lib.hid (wj_one hlt (by omega))
      have HQE := Lib.hid hQ
      clear hJ hlt hst hZ hzs hzl hna hps hlp hQ hNN hjx HT HU HNN HL0
      go_upto_region 6 with (fail)
      go_cut [7, 8] from 37 to 48 (fun v7 v8 wx => ∃ (q7 : Nat) (a9 : Option Addr) (c9 : Nat), v7 = .pointer (some ⟨q7, 0, none⟩) ∧ v8 = .bool true ∧ F1 w t0 lb lo cl s.lvs (some ⟨b, o, none⟩) cap NN q7 a9 c9 Q wx)
      case first =>
        refine wp_region_held_drew (S := (fun W => W.cell? ⟨w.heap.size, 0, none⟩ = some (.int .i64 t0) ∧ W.cell? ⟨w.heap.size, 1, none⟩ = some (.slice (some ⟨b, o, none⟩) NN.length cap) ∧ W.cell? ⟨b, o + jx * 6 + 4, none⟩ = some (.slice pa lp.length pc) ∧ Below wr.heap.size wr W)) (by kernel_rfl) (by first | exact ⟨kc (Below.refl _ _) k0, kc (Below.refl _ _) k1, kc (Below.refl _ _) c4, (Below.refl _ _)⟩ | exact ⟨kc (Below.refl _ _).drew k0, kc (Below.refl _ _).drew k1, kc (Below.refl _ _).drew c4, (Below.refl _ _).drew⟩) (fun hHeld => ?_)
        refine wpAnyH_take (i := 0) (v := ?_) rfl (by kernel_rfl) (by kernel_rfl) (by kernel_rfl) (fun _ _ _ h => h) (Or.inl ⟨by rfl, ?_⟩) hHeld ?_
        rotate_left
        · (intro wS hSw; (try dsimp only at hSw); (try go_split_ands); go_simp; try with_reducible rfl)
        try simp only [List.getElem_toArray, List.getElem_cons_succ, List.getElem_cons_zero, Act.put, List.setIfInBounds_toArray, List.set_cons_zero, List.set_cons_succ]
        refine wpAnyH_take (i := 1) (v := ?_) rfl (by kernel_rfl) (by kernel_rfl) (by kernel_rfl) (fun _ _ _ h => h) (Or.inl ⟨by rfl, ?_⟩) hHeld ?_
        rotate_left
        · (intro wS hSw; (try dsimp only at hSw); (try go_split_ands); go_simp; try with_reducible rfl)
        try simp only [List.getElem_toArray, List.getElem_cons_succ, List.getElem_cons_zero, Act.put, List.setIfInBounds_toArray, List.set_cons_zero, List.set_cons_succ]
        refine wpAnyH_take (i := 2) (v := ?_) rfl (by kernel_rfl) (by kernel_rfl) (by kernel_rfl) (fun _ _ _ h => h) (Or.inl ⟨by rfl, ?_⟩) hHeld ?_
        rotate_left
        · (intro wS hSw; (try dsimp only at hSw); (try go_split_ands); go_simp; try with_reducible rfl)
        try simp only [List.getElem_toArray, List.getElem_cons_succ, List.getElem_cons_zero, Act.put, List.setIfInBounds_toArray, List.set_cons_zero, List.set_cons_succ]
        refine wpAnyH_take (i := 3) (v := ?_) rfl (by kernel_rfl) (by kernel_rfl) (by kernel_rfl) (fun _ _ _ h => h) (Or.inl ⟨by rfl, ?_⟩) hHeld ?_
        rotate_left
        · (intro wS hSw; (try dsimp only at hSw); (try go_split_ands); go_simp; try with_reducible rfl)
        try simp only [List.getElem_toArray, List.getElem_cons_succ, List.getElem_cons_zero, Act.put, List.setIfInBounds_toArray, List.set_cons_zero, List.set_cons_succ]
        refine wpAnyH_take (i := 4) (v := ?_) rfl (by kernel_rfl) (by kernel_rfl) (by kernel_rfl) (fun _ _ _ h => h) (Or.inl ⟨by rfl, ?_⟩) hHeld ?_
        rotate_left
        · (intro wS hSw; (try dsimp only at hSw); (try go_split_ands); go_simp; try with_reducible rfl)
        try simp only [List.getElem_toArray, List.getElem_cons_succ, List.getElem_cons_zero, Act.put, List.setIfInBounds_toArray, List.set_cons_zero, List.set_cons_succ]
        refine wpAnyH_take (i := 5) (v := ?_) rfl (by kernel_rfl) (by kernel_rfl) (by kernel_rfl) (fun _ _ _ h => h) (Or.inl ⟨by rfl, ?_⟩) hHeld ?_
        rotate_left
        · (intro wS hSw; (try dsimp only at hSw); (try go_split_ands); go_simp; try with_reducible rfl)
        try simp only [List.getElem_toArray, List.getElem_cons_succ, List.getElem_cons_zero, Act.put, List.setIfInBounds_toArray, List.set_cons_zero, List.set_cons_succ]
        refine wpAnyH_take (i := 6) (v := ?_) rfl (by kernel_rfl) (by kernel_rfl) (by kernel_rfl) (fun _ _ _ h => h) (Or.inl ⟨by rfl, ?_⟩) hHeld ?_
        rotate_left
        · (intro wS hSw; (try dsimp only at hSw); (try go_split_ands); go_simp; try with_reducible rfl)
        try simp only [List.getElem_toArray, List.getElem_cons_succ, List.getElem_cons_zero, Act.put, List.setIfInBounds_toArray, List.set_cons_zero, List.set_cons_succ]
        refine wpAnyH_take (i := 7) (v := ?_) rfl (by kernel_rfl) (by kernel_rfl) (by kernel_rfl) (fun _ _ _ h => h) (Or.inl ⟨by rfl, ?_⟩) hHeld ?_
        rotate_left
        · (intro wS hSw; (try dsimp only at hSw); (try go_split_ands); go_simp; try with_reducible rfl)
        try simp only [List.getElem_toArray, List.getElem_cons_succ, List.getElem_cons_zero, Act.put, List.setIfInBounds_toArray, List.set_cons_zero, List.set_cons_succ]
        refine wpAnyH_ready (rs := [8, 12]) (by kernel_rfl) (by simp) ?_
        refine AllReadyH.cons rfl (fun K hK => ?_) (AllReadyH.cons rfl (fun K hK => ?_) AllReadyH.nil)
        · skip
          go_simp
          (go_at_call 24; ((with_reducible refine (ct _ (JH.out.keep hHeld.2.2.2).n hHeld.2.2.2).mono ?_); rintro e X ⟨a9, c9, rfl, hnX, hbX⟩))
          refine hK.out _ _ ?_ (fun hNext => ?_)
          · exact ⟨kc (bel2 hHeld.2.2.2 hbX) k0, kc (bel2 hHeld.2.2.2 hbX) k1, kc (bel2 hHeld.2.2.2 hbX) c4, (bel2 hHeld.2.2.2 hbX)⟩
          have BXX := Lib.hid (bel2 hHeld.2.2.2 hbX)
          have NX := Lib.hid hnX
          clear hbX hnX
          clear hK K hHeld
          have hHeld := hNext
          clear hNext
          try simp only [List.getElem_toArray, List.getElem_cons_succ, List.getElem_cons_zero, Act.put, List.setIfInBounds_toArray, List.set_cons_zero, List.set_cons_succ]
          refine wpAnyH_take (i := 9) (v := ?_) rfl (by kernel_rfl) (by kernel_rfl) (by kernel_rfl) (fun _ _ _ h => h) (Or.inl ⟨by rfl, ?_⟩) hHeld ?_
          rotate_left
          · (intro wS hSw; (try dsimp only at hSw); (try go_split_ands); go_simp; try with_reducible rfl)
          try simp only [List.getElem_toArray, List.getElem_cons_succ, List.getElem_cons_zero, Act.put, List.setIfInBounds_toArray, List.set_cons_zero, List.set_cons_succ]
          refine wpAnyH_take (i := 10) (v := ?_) rfl (by kernel_rfl) (by kernel_rfl) (by kernel_rfl) (fun _ _ _ h => h) (Or.inl ⟨by rfl, ?_⟩) hHeld ?_
          rotate_left
          · (intro wS hSw; (try dsimp only at hSw); (try go_split_ands); go_simp; try with_reducible rfl)
          try simp only [List.getElem_toArray, List.getElem_cons_succ, List.getElem_cons_zero, Act.put, List.setIfInBounds_toArray, List.set_cons_zero, List.set_cons_succ]
          refine wpAnyH_take (i := 11) (v := ?_) rfl (by kernel_rfl) (by kernel_rfl) (by kernel_rfl) (fun _ _ _ h => h) (Or.inl ⟨by rfl, ?_⟩) hHeld ?_
          rotate_left
          · (intro wS hSw; (try dsimp only at hSw); (try go_split_ands); go_simp; try with_reducible rfl)
          try simp only [List.getElem_toArray, List.getElem_cons_succ, List.getElem_cons_zero, Act.put, List.setIfInBounds_toArray, List.set_cons_zero, List.set_cons_succ]
          refine wpAnyH_ready (rs := [12]) (by kernel_rfl) (by simp) ?_
          refine AllReadyH.cons rfl (fun K hK => ?_) AllReadyH.nil
          go_simp
          refine hK.out _ _ ?_ (fun hNext => ?_)
          · exact ⟨kc (bel1 hHeld.2.2.2 _) k0, kc (bel1 hHeld.2.2.2 _) k1, kc (bel1 hHeld.2.2.2 _) c4, (bel1 hHeld.2.2.2 _)⟩
          clear hK K hHeld
          have hHeld := hNext
          clear hNext
          try simp only [List.getElem_toArray, List.getElem_cons_succ, List.getElem_cons_zero, Act.put, List.setIfInBounds_toArray, List.set_cons_zero, List.set_cons_succ]
          refine wpAnyH_ready (rs := [13]) (by kernel_rfl) (by simp) ?_
          refine AllReadyH.cons rfl (fun K hK => ?_) AllReadyH.nil
          go_simp
          refine hK.out _ _ ?_ (fun hNext => ?_)
          · exact ⟨kc (bel1 BXX.out _) k0, kc (bel1 BXX.out _) k1, kc (bel1 BXX.out _) c4, (bel1 BXX.out _)⟩
          have FQ := Lib.hid (show F1 w t0 lb lo cl s.lvs (some ⟨b, o, none⟩) cap NN X.heap.size a9 c9 Q (X.alloc (.cells #[.int .i64 t0, .slice a9 Q.length c9] 25)) from ⟨(JH.out.keep BXX.out).keep (al1 _), Tq.new X t0 a9 Q.length c9, NX.out.keep (al1 _)⟩)
          clear hK K hHeld
          have hHeld := hNext
          clear hNext
          try simp only [List.getElem_toArray, List.getElem_cons_succ, List.getElem_cons_zero, Act.put, List.setIfInBounds_toArray, List.set_cons_zero, List.set_cons_succ]
          refine wpAnyH_take (i := 14) (v := ?_) rfl (by kernel_rfl) (by kernel_rfl) (by kernel_rfl) (fun _ _ _ h => h) (Or.inl ⟨by rfl, ?_⟩) hHeld ?_
          rotate_left
          · (intro wS hSw; (try dsimp only at hSw); (try go_split_ands); go_simp; try with_reducible rfl)
          try simp only [List.getElem_toArray, List.getElem_cons_succ, List.getElem_cons_zero, Act.put, List.setIfInBounds_toArray, List.set_cons_zero, List.set_cons_succ]
          refine wpAnyH_done (by kernel_rfl) ?_ _
          clear hHeld
          go_wp2_with (fail)
          go_meet
          case rel => exact ⟨X.heap.size, a9, c9, rfl, rfl, FQ.out⟩
        · skip
          go_simp
          refine hK.out _ _ ?_ (fun hNext => ?_)
          · exact ⟨kc (bel1 hHeld.2.2.2 _) k0, kc (bel1 hHeld.2.2.2 _) k1, kc (bel1 hHeld.2.2.2 _) c4, (bel1 hHeld.2.2.2 _)⟩
          have BX := Lib.hid (show Rq (wr.alloc (.cells #[.int .i64 0, .slice none 0 0] 25)).drew wr.heap.size from Rq.new wr)
          clear hK K hHeld
          have hHeld := hNext
          clear hNext
          try simp only [List.getElem_toArray, List.getElem_cons_succ, List.getElem_cons_zero, Act.put, List.setIfInBounds_toArray, List.set_cons_zero, List.set_cons_succ]
          refine wpAnyH_ready (rs := [8]) (by kernel_rfl) (by simp) ?_
          refine AllReadyH.cons rfl (fun K hK => ?_) AllReadyH.nil
          go_simp
          (go_at_call 24; ((with_reducible refine (ct _ (JH.out.keep hHeld.2.2.2).n hHeld.2.2.2).mono ?_); rintro e X ⟨a9, c9, rfl, hnX, hbX⟩))
          refine hK.out _ _ ?_ (fun hNext => ?_)
          · exact ⟨kc (bel2 hHeld.2.2.2 hbX) k0, kc (bel2 hHeld.2.2.2 hbX) k1, kc (bel2 hHeld.2.2.2 hbX) c4, (bel2 hHeld.2.2.2 hbX)⟩
          have BZ := Lib.hid (BX.out.keep hbX)
          have BXX := Lib.hid (bel2 hHeld.2.2.2 hbX)
          have NX := Lib.hid hnX
          clear hbX hnX
          have z0 := BZ.out.c0
          have z1 := BZ.out.c1
          have fz := BZ.out.fr
          clear hK K hHeld
          have hHeld := hNext
          clear hNext
          try simp only [List.getElem_toArray, List.getElem_cons_succ, List.getElem_cons_zero, Act.put, List.setIfInBounds_toArray, List.set_cons_zero, List.set_cons_succ]
          refine wpAnyH_take (i := 9) (v := ?_) rfl (by kernel_rfl) (by kernel_rfl) (by kernel_rfl) (fun _ _ _ h => h) (Or.inl ⟨by rfl, ?_⟩) hHeld ?_
          rotate_left
          · (intro wS hSw; (try dsimp only at hSw); (try go_split_ands); go_simp; try with_reducible rfl)
          try simp only [List.getElem_toArray, List.getElem_cons_succ, List.getElem_cons_zero, Act.put, List.setIfInBounds_toArray, List.set_cons_zero, List.set_cons_succ]
          refine wpAnyH_take (i := 10) (v := ?_) rfl (by kernel_rfl) (by kernel_rfl) (by kernel_rfl) (fun _ _ _ h => h) (Or.inl ⟨by rfl, ?_⟩) hHeld ?_
          rotate_left
          · (intro wS hSw; (try dsimp only at hSw); (try go_split_ands); go_simp; try with_reducible rfl)
          try simp only [List.getElem_toArray, List.getElem_cons_succ, List.getElem_cons_zero, Act.put, List.setIfInBounds_toArray, List.set_cons_zero, List.set_cons_succ]
          refine wpAnyH_take (i := 11) (v := ?_) rfl (by kernel_rfl) (by kernel_rfl) (by kernel_rfl) (fun _ _ _ h => h) (Or.inl ⟨by rfl, ?_⟩) hHeld ?_
          rotate_left
          · (intro wS hSw; (try dsimp only at hSw); (try go_split_ands); go_simp; try with_reducible rfl)
          try simp only [List.getElem_toArray, List.getElem_cons_succ, List.getElem_cons_zero, Act.put, List.setIfInBounds_toArray, List.set_cons_zero, List.set_cons_succ]
          refine wpAnyH_ready (rs := [13]) (by kernel_rfl) (by simp) ?_
          refine AllReadyH.cons rfl (fun K hK => ?_) AllReadyH.nil
          go_simp
          refine hK.out _ _ ?_ (fun hNext => ?_)
          · exact ⟨kc ((BXX.out.setCell (Nat.le_refl _) _).setCell (Nat.le_refl _) _) k0, kc ((BXX.out.setCell (Nat.le_refl _) _).setCell (Nat.le_refl _) _) k1, kc ((BXX.out.setCell (Nat.le_refl _) _).setCell (Nat.le_refl _) _) c4, ((BXX.out.setCell (Nat.le_refl _) _).setCell (Nat.le_refl _) _)⟩
          have FQ := Lib.hid (show F1 w t0 lb lo cl s.lvs (some ⟨b, o, none⟩) cap NN wr.heap.size a9 c9 Q ((X.setCell ⟨wr.heap.size, 0, none⟩ (.int .i64 t0)).setCell ⟨wr.heap.size, 1, none⟩ (.slice a9 Q.length c9)) from ⟨JH.out.keep ((BXX.out.setCell (Nat.le_refl _) _).setCell (Nat.le_refl _) _), tq_rt BZ.out _ _ _ _, ns_rt BZ.out NX.out _ _⟩)
          clear z0 z1 fz
          clear hK K hHeld
          have hHeld := hNext
          clear hNext
          try simp only [List.getElem_toArray, List.getElem_cons_succ, List.getElem_cons_zero, Act.put, List.setIfInBounds_toArray, List.set_cons_zero, List.set_cons_succ]
          refine wpAnyH_take (i := 14) (v := ?_) rfl (by kernel_rfl) (by kernel_rfl) (by kernel_rfl) (fun _ _ _ h => h) (Or.inl ⟨by rfl, ?_⟩) hHeld ?_
          rotate_left
          · (intro wS hSw; (try dsimp only at hSw); (try go_split_ands); go_simp; try with_reducible rfl)
          try simp only [List.getElem_toArray, List.getElem_cons_succ, List.getElem_cons_zero, Act.put, List.setIfInBounds_toArray, List.set_cons_zero, List.set_cons_succ]
          refine wpAnyH_done (by kernel_rfl) ?_ _
          clear hHeld
          go_wp2_with (fail)
          go_meet
          case rel => exact ⟨wr.heap.size, a9, c9, rfl, rfl, FQ.out⟩
      case rest =>
        obtain ⟨q7, a9, c9, rfl, rfl, hF⟩ := hcut
        have FF := Lib.hid hF
        have z0 := hF.z.c0
        have z1 := hF.z.c1
        have t0' := hF.j.q.c0
        have t1' := hF.j.q.c1
        have tf0 := hF.j.q.fr 0
        have tf1 := hF.j.q.fr 1
        clear hF k0 k1 c4 c7
        go_wp2_with (fail)
        go_roundw
        case rel => exact ⟨i + 1, a9, c9, by have := HLT.out; omega, (by first | go_num | (rw [HWJ.out]; go_num)), by rw [HQE.out]; exact FF.out.j.put HLB.out FF.out.n⟩
        case measure => first | with_reducible exact wm_one HLT.out | with_reducible exact wm_two HLT.out HWJ.out
    · obtain rfl : i = s.lvs.length := by omega
      have hta : s.lvs.take s.lvs.length = s.lvs := List.take_of_length_le (Nat.le_refl _)
      rw [hta] at hJ
      have hJS := JS.zero HT.out HNN.out a1
      have hL := HU.out
      have hal : allP (z0N N0 s.lvs) s.lvs = allP N0 s.lvs := by have h := z0_all (i := s.lvs.length) (m := s.lvs) HT.out; rw [hta] at h; exact h
      have hsm := hJS.small (by omega) hnl (Nat.zero_le _)
      generalize hNN : z0N N0 s.lvs = NN at *
      have ca := fun (W : World) (h : Ns W a cap NN) => tall_gen t0 a cap NN W h hsm s.lvs ⟨by have := lvs_len s; have := hJS.t.all; omega, fun i hi => hJS.t.hg.lt i (lvs_pre _ _ hi)⟩ (fun W2 hW2 => tleaves_yes t0 a cap NN W2 hW2 hsm s hJS.t)
      rw [hal] at ca
      unfold RowIs trv at ca
      have cv := fun (W : World) (h : Ns W a cap NN) => tleaves_yes t0 a cap NN W h hsm s hJS.t
      unfold LvIs trv at cv
      generalize hLL : allP N0 s.lvs = LL at *
      have J6 := Lib.hid (hJ.keep (al1 (.cells #[.int .i64 1000, .int .i64 0, .int .i64 0, .int .i64 1, .int .i64 0] 27)))
      have O6 := Lib.hid (Bk.new wr #[.int .i64 1000, .int .i64 0, .int .i64 0, .int .i64 1, .int .i64 0] 27)
      have HPB := Lib.hid hJ.q.lt
      have k0 := J6.out.q.c0
      have k1 := J6.out.q.c1
      have HJS := Lib.hid hJS
      have HL := Lib.hid hL
      clear hJ hJS hL hal hsm hNN hLL hta HT HU HNN HL0 hlt
      go_wp2_with (first
        | (go_at_call 23; ((with_reducible refine (ca _ J6.out.n).mono ?_); clear ca k0 k1; rintro e W7 ⟨aw, cw, rfl, hR7, hb7⟩; have K7 := Lib.hid (show J2 w wr.heap.size aw cw LL t0 a cap NN W7 from ⟨J6.out.q.keep hb7, J6.out.n.keep hb7, hR7.prs rfl, O6.out.keep hb7, HPB.out, bel2 J6.out.b hb7⟩); clear hR7 hb7; have k0 := K7.out.q.c0; have k1 := K7.out.q.c1))
        | (go_at_call 19; ((with_reducible refine (cv _ K7.out.n).mono ?_); clear cv k0 k1; rintro e W8 ⟨a8, c8, rfl, -, hb8⟩; have K8 := Lib.hid (K7.out.keep hb8); clear hb8))
        | fail)
      go_loopw [60] (fun x wr2 => ∃ (j : Nat) (t : Int) (a : Option Addr) (cap : Nat) (N : List Nd) (s' : Sh), j ≤ s.lvs.length ∧ x = .int .i64 j ∧ J2 w wr.heap.size aw cw LL t a cap N wr2 ∧ JS LL a1 s.lvs.length j N t s') (fun x _ => s.lvs.length - (intOf x).toNat)
      case atStart => exact ⟨0, t0, a, cap, NN, s, Nat.zero_le _, rfl, K8.out, HJS.out⟩
      case round =>
        clear K8 HJS
        obtain ⟨j, t, a, cap, N, s', hj, rfl, hK, hS⟩ := hrel
        have hsm := hS.small (by have := HL.out; omega) hnl hj
        have hT := hS.t
        have cv := fun (W : World) (h : Ns W a cap N) => tleaves_yes t a cap N W h hsm s' hT
        unfold LvIs trv at cv
        have k0 := hK.q.c0
        have k1 := hK.q.c1
        have p0 := hK.o.at_ 0 _ rfl
        have p1 := hK.o.at_ 1 _ rfl
        have p2 := hK.o.at_ 2 _ rfl
        have p3 := hK.o.at_ 3 _ rfl
        have p4 := hK.o.at_ 4 _ rfl
        have KH := Lib.hid hK
        have HS := Lib.hid hS
        have hsl := hS.l
        have hsc := hS.c
        clear hK
        by_cases hlt : j < s.lvs.length
        · obtain ⟨Q, hD⟩ := doS_ex N s' 1000 0 0 1 0 ⟨3, a1, 0, 0⟩
          obtain ⟨s2, hS2⟩ := hS.step hlt hD
          obtain ⟨ok, x, y, m, hA⟩ := hS.err 0
          have hsm2 := hS2.small (by have := HL.out; omega) hnl hlt
          have cd := fun (W : World) (h : Ns W a cap N) => sdo_any t a cap N 1000 0 0 1 0 1000 0 0 1 0 ⟨3, a1, 0, 0⟩ HWO.out W h hsm s' hT (by omega) (by have := hS.le; have := HL.out; omega) (by decide) Q hD
          dsimp only at cd
          rw [hA] at cd
          unfold SoIs Ad.val at cd
          unfold trv polv opv at cd
          dsimp only at cd
          have cu := fun (W : World) (ao : Option Addr) (cp : Nat) (h : Ns W ao cp Q) => tleaves_yes 0 ao cp Q W h hsm2 s2 hS2.t
          unfold LvIs trv at cu
          have h2l := hS2.l
          have HS2 := Lib.hid hS2
          have hl0 : (0 : Int) < (s'.lvs.length : Int) := by have := lvs_pos s'; omega
          have hl6 : (s'.lvs.length : Int) ≤ 60 := by omega
          have hl6N : s'.lvs.length ≤ 60 := by omega
          have HLT := Lib.hid hlt
          have HWJ := Lib.hid (wj_one hlt (by omega))
          have hltI : (j : Int) < (s.lvs.length : Int) := by omega
          have HMX := Lib.hid (And.intro hsl h2l)
          clear hD hS2 hA hsm2 hS hsl h2l hsm hT hsc hlt
          go_upto_region 17 with (go_at_call 12; ((with_reducible refine (cd _ KH.out.n).mono ?_); clear cd k0 k1 p0 p1 p2 p3 p4; rintro e X ⟨ao, cp, a9, c9, rfl, hnX, -, hbX⟩; have NX := Lib.hid ((hnX.keep (al1 (.cells #[.int .i64 0, .slice ao Q.length cp] 25))).keep (al1 (.cells #[.int .i64 0, .bool ok, .int .i64 x, .int .i64 y, .int .i64 m, .slice a9 0 c9] 44))); have UX := Lib.hid ((Bk.new X #[.int .i64 0, .slice ao Q.length cp] 25).past (.cells #[.int .i64 0, .bool ok, .int .i64 x, .int .i64 y, .int .i64 m, .slice a9 0 c9] 44)); have VX := Lib.hid (Bk.new (X.alloc (.cells #[.int .i64 0, .slice ao Q.length cp] 25)) #[.int .i64 0, .bool ok, .int .i64 x, .int .i64 y, .int .i64 m, .slice a9 0 c9] 44); have KX := Lib.hid (((KH.out.keep hbX).keep (al1 (.cells #[.int .i64 0, .slice ao Q.length cp] 25))).keep (al1 (.cells #[.int .i64 0, .bool ok, .int .i64 x, .int .i64 y, .int .i64 m, .slice a9 0 c9] 44))); clear hnX hbX; have k0 := KX.out.q.c0; have k1 := KX.out.q.c1; have u0 := UX.out.at_ 0 _ rfl; have u1 := UX.out.at_ 1 _ rfl; have v0 := VX.out.at_ 0 _ rfl; simp only [World.size_alloc] at v0))
          refine wp_region_held_drew (S := (fun W => W.cell? ⟨w.heap.size, 0, none⟩ = some (.int .i64 t) ∧ W.cell? ⟨w.heap.size, 1, none⟩ = some (.slice a N.length cap) ∧ W.cell? ⟨X.heap.size, 0, none⟩ = some (.int .i64 0) ∧ W.cell? ⟨X.heap.size, 1, none⟩ = some (.slice ao Q.length cp) ∧ W.cell? ⟨X.heap.size + 1, 0, none⟩ = some (.int .i64 0) ∧ Below ((X.alloc (.cells #[.int .i64 0, .slice ao Q.length cp] 25)).alloc (.cells #[.int .i64 0, .bool ok, .int .i64 x, .int .i64 y, .int .i64 m, .slice a9 0 c9] 44)).heap.size ((X.alloc (.cells #[.int .i64 0, .slice ao Q.length cp] 25)).alloc (.cells #[.int .i64 0, .bool ok, .int .i64 x, .int .i64 y, .int .i64 m, .slice a9 0 c9] 44)) W)) (by kernel_rfl) (by first | exact ⟨kc (Below.refl _ _) k0, kc (Below.refl _ _) k1, kc (Below.refl _ _) u0, kc (Below.refl _ _) u1, kc (Below.refl _ _) v0, (Below.refl _ _)⟩ | exact ⟨kc (Below.refl _ _).drew k0, kc (Below.refl _ _).drew k1, kc (Below.refl _ _).drew u0, kc (Below.refl _ _).drew u1, kc (Below.refl _ _).drew v0, (Below.refl _ _).drew⟩) (fun hHeld => ?_)
          refine wpAnyH_take (i := 0) (v := ?_) rfl (by kernel_rfl) (by kernel_rfl) (by kernel_rfl) (fun _ _ _ h => h) (Or.inl ⟨by rfl, ?_⟩) hHeld ?_
          rotate_left
          · (intro wS hSw; (try dsimp only at hSw); (try go_split_ands); go_simp; try with_reducible rfl)
          try simp only [List.getElem_toArray, List.getElem_cons_succ, List.getElem_cons_zero, Act.put, List.setIfInBounds_toArray, List.set_cons_zero, List.set_cons_succ]
          refine wpAnyH_take (i := 1) (v := ?_) rfl (by kernel_rfl) (by kernel_rfl) (by kernel_rfl) (fun _ _ _ h => h) (Or.inl ⟨by rfl, ?_⟩) hHeld ?_
          rotate_left
          · (intro wS hSw; (try dsimp only at hSw); (try go_split_ands); go_simp; try with_reducible rfl)
          try simp only [List.getElem_toArray, List.getElem_cons_succ, List.getElem_cons_zero, Act.put, List.setIfInBounds_toArray, List.set_cons_zero, List.set_cons_succ]
          refine wpAnyH_take (i := 2) (v := ?_) rfl (by kernel_rfl) (by kernel_rfl) (by kernel_rfl) (fun _ _ _ h => h) (Or.inl ⟨by rfl, ?_⟩) hHeld ?_
          rotate_left
          · (intro wS hSw; (try dsimp only at hSw); (try go_split_ands); go_simp; try with_reducible rfl)
          try simp only [List.getElem_toArray, List.getElem_cons_succ, List.getElem_cons_zero, Act.put, List.setIfInBounds_toArray, List.set_cons_zero, List.set_cons_succ]
          refine wpAnyH_take (i := 3) (v := ?_) rfl (by kernel_rfl) (by kernel_rfl) (by kernel_rfl) (fun _ _ _ h => h) (Or.inl ⟨by rfl, ?_⟩) hHeld ?_
          rotate_left
          · (intro wS hSw; (try dsimp only at hSw); (try go_split_ands); go_simp; try with_reducible rfl)
          try simp only [List.getElem_toArray, List.getElem_cons_succ, List.getElem_cons_zero, Act.put, List.setIfInBounds_toArray, List.set_cons_zero, List.set_cons_succ]
          refine wpAnyH_take (i := 4) (v := ?_) rfl (by kernel_rfl) (by kernel_rfl) (by kernel_rfl) (fun _ _ _ h => h) (Or.inl ⟨by rfl, ?_⟩) hHeld ?_
          rotate_left
          · (intro wS hSw; (try dsimp only at hSw); (try go_split_ands); go_simp; try with_reducible rfl)
          try simp only [List.getElem_toArray, List.getElem_cons_succ, List.getElem_cons_zero, Act.put, List.setIfInBounds_toArray, List.set_cons_zero, List.set_cons_succ]
          refine wpAnyH_take (i := 7) (v := ?_) rfl (by kernel_rfl) (by kernel_rfl) (by kernel_rfl) (fun _ _ _ h => h) (Or.inl ⟨by rfl, ?_⟩) hHeld ?_
          rotate_left
          · (intro wS hSw; (try dsimp only at hSw); (try go_split_ands); go_simp; try with_reducible rfl)
          try simp only [List.getElem_toArray, List.getElem_cons_succ, List.getElem_cons_zero, Act.put, List.setIfInBounds_toArray, List.set_cons_zero, List.set_cons_succ]
          refine wpAnyH_ready (rs := [5]) (by kernel_rfl) (by simp) ?_
          refine AllReadyH.cons rfl (fun K hK => ?_) AllReadyH.nil
          go_simp
          (go_at_call 19; ((with_reducible refine (cu _ _ _ (NX.out.keep hHeld.2.2.2.2.2)).mono ?_); rintro e Y ⟨a8, c8, rfl, -, hbY⟩))
          refine hK.out _ _ ?_ (fun hNext => ?_)
          · exact ⟨kc (bel2 hHeld.2.2.2.2.2 hbY) k0, kc (bel2 hHeld.2.2.2.2.2 hbY) k1, kc (bel2 hHeld.2.2.2.2.2 hbY) u0, kc (bel2 hHeld.2.2.2.2.2 hbY) u1, kc (bel2 hHeld.2.2.2.2.2 hbY) v0, (bel2 hHeld.2.2.2.2.2 hbY)⟩
          clear hbY
          clear hK K hHeld
          have hHeld := hNext
          clear hNext
          try simp only [List.getElem_toArray, List.getElem_cons_succ, List.getElem_cons_zero, Act.put, List.setIfInBounds_toArray, List.set_cons_zero, List.set_cons_succ]
          refine wpAnyH_take (i := 6) (v := ?_) rfl (by kernel_rfl) (by kernel_rfl) (by kernel_rfl) (fun _ _ _ h => h) (Or.inl ⟨by rfl, ?_⟩) hHeld ?_
          rotate_left
          · (intro wS hSw; (try dsimp only at hSw); (try go_split_ands); go_simp; try with_reducible rfl)
          try simp only [List.getElem_toArray, List.getElem_cons_succ, List.getElem_cons_zero, Act.put, List.setIfInBounds_toArray, List.set_cons_zero, List.set_cons_succ]
          refine wpAnyH_ready (rs := [8]) (by kernel_rfl) (by simp) ?_
          refine AllReadyH.cons rfl (fun K hK => ?_) AllReadyH.nil
          go_simp
          (go_at_call 19; ((with_reducible refine (cv _ (KX.out.keep hHeld.2.2.2.2.2).n).mono ?_); rintro e Y2 ⟨a8b, c8b, rfl, -, hbY⟩))
          refine hK.out _ _ ?_ (fun hNext => ?_)
          · exact ⟨kc (bel2 hHeld.2.2.2.2.2 hbY) k0, kc (bel2 hHeld.2.2.2.2.2 hbY) k1, kc (bel2 hHeld.2.2.2.2.2 hbY) u0, kc (bel2 hHeld.2.2.2.2.2 hbY) u1, kc (bel2 hHeld.2.2.2.2.2 hbY) v0, (bel2 hHeld.2.2.2.2.2 hbY)⟩
          have KY := Lib.hid (KX.out.keep (bel2 hHeld.2.2.2.2.2 hbY))
          have NY := Lib.hid (NX.out.keep (bel2 hHeld.2.2.2.2.2 hbY))
          have UY := Lib.hid (UX.out.keep (bel2 hHeld.2.2.2.2.2 hbY))
          clear hbY
          clear hK K hHeld
          have hHeld := hNext
          clear hNext
          try simp only [List.getElem_toArray, List.getElem_cons_succ, List.getElem_cons_zero, Act.put, List.setIfInBounds_toArray, List.set_cons_zero, List.set_cons_succ]
          refine wpAnyH_take (i := 9) (v := ?_) rfl (by kernel_rfl) (by kernel_rfl) (by kernel_rfl) (fun _ _ _ h => h) (Or.inl ⟨by rfl, ?_⟩) hHeld ?_
          rotate_left
          · (intro wS hSw; (try dsimp only at hSw); (try go_split_ands); go_simp; try with_reducible rfl)
          try simp only [List.getElem_toArray, List.getElem_cons_succ, List.getElem_cons_zero, Act.put, List.setIfInBounds_toArray, List.set_cons_zero, List.set_cons_succ]
          refine wpAnyH_take (i := 10) (v := ?_) rfl (by kernel_rfl) (by kernel_rfl) (by kernel_rfl) (fun _ _ _ h => h) (Or.inl ⟨by rfl, ?_⟩) hHeld ?_
          rotate_left
          · (intro wS hSw; (try dsimp only at hSw); (try go_split_ands); go_simp; try with_reducible rfl)
          try simp only [List.getElem_toArray, List.getElem_cons_succ, List.getElem_cons_zero, Act.put, List.setIfInBounds_toArray, List.set_cons_zero, List.set_cons_succ]
          refine wpAnyH_take (i := 11) (v := ?_) rfl (by kernel_rfl) (by kernel_rfl) (by kernel_rfl) (fun _ _ _ h => h) (Or.inl ⟨by rfl, ?_⟩) hHeld ?_
          rotate_left
          · (intro wS hSw; (try dsimp only at hSw); (try go_split_ands); go_simp; try with_reducible rfl)
          try simp only [List.getElem_toArray, List.getElem_cons_succ, List.getElem_cons_zero, Act.put, List.setIfInBounds_toArray, List.set_cons_zero, List.set_cons_succ]
          refine wpAnyH_take (i := 12) (v := ?_) rfl (by kernel_rfl) (by kernel_rfl) (by kernel_rfl) (fun _ _ _ h => h) (Or.inl ⟨by rfl, ?_⟩) hHeld ?_
          rotate_left
          · (intro wS hSw; (try dsimp only at hSw); (try go_split_ands); go_simp; try with_reducible rfl)
          try simp only [List.getElem_toArray, List.getElem_cons_succ, List.getElem_cons_zero, Act.put, List.setIfInBounds_toArray, List.set_cons_zero, List.set_cons_succ]
          refine wpAnyH_take (i := 13) (v := ?_) rfl (by kernel_rfl) (by kernel_rfl) (by kernel_rfl) (fun _ _ _ h => h) (Or.inl ⟨by rfl, ?_⟩) hHeld ?_
          rotate_left
          · (intro wS hSw; (try dsimp only at hSw); (try go_split_ands); go_simp; try with_reducible rfl)
          try simp only [List.getElem_toArray, List.getElem_cons_succ, List.getElem_cons_zero, Act.put, List.setIfInBounds_toArray, List.set_cons_zero, List.set_cons_succ]
          refine wpAnyH_done (by kernel_rfl) ?_ _
          have hmx := mx_no HMX.out hl6N
          rw [hmx]
          clear hmx
          have k0 := KY.out.q.c0
          have k1 := KY.out.q.c1
          have kf0 := KY.out.q.fr 0
          have kf1 := KY.out.q.fr 1
          have u0 := UY.out.at_ 0 _ rfl
          have u1 := UY.out.at_ 1 _ rfl
          clear hHeld v0
          go_wp2_with (fail)
          go_roundw
          case rel => exact ⟨j + 1, 0, ao, cp, Q, s2, by have := HLT.out; omega, (by first | go_num | (rw [HWJ.out]; go_num)), KY.out.put 0 NY.out, HS2.out⟩
          case measure => first | with_reducible exact wm_one HLT.out | with_reducible exact wm_two HLT.out HWJ.out
        · obtain rfl : j = s.lvs.length := by omega
          have hall := hS.p
          rw [if_neg (by omega)] at hall
          have hone : s'.lvs.length = 1 := by omega
          have hz1 : ((s'.lvs.length : Int) == 1) = true := by rw [hone]; rfl
          have ca := fun (W : World) (h : Ns W a cap N) => tall_gen t a cap N W h hsm s'.lvs ⟨by have := lvs_len s'; have := hT.all; omega, fun i hi => hT.hg.lt i (lvs_pre _ _ hi)⟩ (fun W2 hW2 => tleaves_yes t a cap N W2 hW2 hsm s' hT)
          rw [hall] at ca
          unfold RowIs trv at ca
          have cw' := fun (W : World) (h : Prs W aw cw LL) => without_is aw cw LL a1 W h (by have := HL.out; omega)
          unfold WithIs at cw'
          have csp := fun (W : World) (x y : Option Addr) (cx cy : Nat) (h1 : Prs W x cx (cutL LL a1)) (h2 : Prs W y cy (cutL LL a1)) => samep_any x y cx cy _ _ W h1 h2 true (decide_eq_true rfl)
          clear hall hone hsl hsc hS hT hsm hlt
          go_wp2_with (first
            | (go_at_call 19; ((with_reducible refine (cv _ KH.out.n).mono ?_); clear cv k0 k1 p0 p1 p2 p3 p4; rintro e W8 ⟨a8, c8, rfl, -, hb8⟩; have K8 := Lib.hid (KH.out.keep hb8); clear hb8; have k0 := K8.out.q.c0; have k1 := K8.out.q.c1))
            | (go_at_call 23; ((with_reducible refine (ca _ K8.out.n).mono ?_); clear ca k0 k1; rintro e W9 ⟨a9, c9, rfl, hR9, hb9⟩; have K9 := Lib.hid (K8.out.keep hb9); have P9 := Lib.hid (hR9.prs rfl); clear hR9 hb9))
            | (go_at_call 25; ((with_reducible refine (cw' _ K9.out.p).mono ?_); clear cw'; rintro e W10 ⟨a10, c10, rfl, hR10, hb10⟩; have K10 := Lib.hid (K9.out.keep hb10); have P10 := Lib.hid (hR10.prs rfl); have Q9 := Lib.hid (P9.out.below hb10); clear hR10 hb10))
            | (go_at_call 20; ((with_reducible refine (csp _ _ _ _ _ Q9.out P10.out).mono ?_); clear csp; rintro e W11 ⟨rfl, hb11⟩; have K11 := Lib.hid (K10.out.keep hb11); clear hb11))
            | (go_at_call 8; ((with_reducible refine (caw _).mono ?_); clear caw; rintro e WA ⟨rfl, hbA⟩; have HA := Lib.hid (bel2 K11.out.b hbA); clear hbA))
            | fail)
          go_ret
          exact ⟨rfl, HA.out⟩

theorem walk (t0 : Int) (a0 : Option Addr) (cap0 : Nat) (N0 : List Nd) (a1 : Int) (w : World) (w0 : Ns w a0 cap0 N0) (u0 : bsum N0 ≤ 1048576) (w1 : (Lit.int .i64 a1).wf = true) :
    Calls Try.prog 6 #[.agg #[.int .i64 t0, .slice a0 N0.length cap0], .int .i64 a1] w fun e w' => e = .returned (.bool true) ∧ Below w.heap.size w w' := by
  by_cases hn : 60 < N0.length
  · exact walk_long t0 a0 cap0 N0 a1 w w0 u0 w1 hn
  rcases Classical.em (∃ s, Tr N0 s t0) with ⟨s, hT⟩ | hT
  · exact walk_main t0 a0 cap0 N0 a1 w w0 u0 w1 hn s hT
  · exact walk_none t0 a0 cap0 N0 a1 w w0 u0 w1 hn (fun s hs => hT ⟨s, hs⟩)

set_option maxRecDepth 100000 in
theorem lifted (os : Os) (started : os.Started) (H : Type) (enc : TypeId × Value → H) (F : Stop.Interp) :
    ReturnsInHanded {} Try.checked os 6 .any ((Rows.OpenSpec.upto Rows.soloJoinsSpec).pre6 enc Try.prog Try.f6 Rows.soloJoinsUptoRow.domain false) (((Rows.OpenSpec.upto Rows.soloJoinsSpec).at F).post enc Try.prog Try.f6 false true false false) := by
  refine returnsInHanded_of_cond_sized (C := Try.checked) (s := (Rows.OpenSpec.upto Rows.soloJoinsSpec)) (k := Rows.uptoSmall) rfl own started (by kernel_rfl) Try.func6
    (OpenSpec.witness (enc := enc) (C := Try.checked) (s := (Rows.OpenSpec.upto Rows.soloJoinsSpec)) (k := Rows.uptoSmall) rfl false ⟨#[], #[.agg #[.int .i64 0, .slice none 0 0], .int .i64 0], []⟩ 8 (by kernel_rfl) (by kernel_rfl) (by kernel_rfl)
      (x := ([.agg [.lit (.int .i64 0), .nil], .lit (.int .i64 0)], [], [])) (by kernel_rfl) rfl (by kernel_rfl)) ?_
  intro W base args ds gs before hval0 hW hcnd hk hsz _
  have hval : ∀ (j : Nat) t v, Try.f6.params[j]? = some t → args[j]? = some v → Value.okWide Try.prog W .any base t v := hval0
  have hW' := hW
  obtain ⟨p, q, hA0, hV, rfl, hfz, hnd⟩ := hW
  have hA : DataW.TrodAll enc Try.prog W 0 (fun _ => true) true Try.f6.params.toList args.toList ds p := hA0
  rw [Try.params6] at hA hval
  obtain ⟨v0, vs0, d0, ds0, p0, q0, hargs, rfl, rfl, h0, r0⟩ := trodAll_cons hA
  obtain ⟨v1, vs1, d1, ds1, p1, q1, rfl, rfl, rfl, h1, r1⟩ := trodAll_cons r0
  obtain ⟨rfl, rfl, rfl⟩ := trodAll_nil r1
  obtain rfl : args = #[v0, v1] := by cases args; simp_all
  obtain ⟨rfl, rfl⟩ := trodVars_none hV
  have k0 := h0
  have lt0 : ∀ x ∈ p0, x.block < W.heap.size := by obtain ⟨m, hm⟩ := k0; exact DataW.trod_lt m _ _ _ hm
  obtain ⟨u0, rfl, _⟩ := okWide_struct Try.underlying25 (hval 0 25 v0 rfl rfl)
  obtain ⟨t0_, a0, cap0, N0, e0, w0, s0⟩ := fields_tree (enc := enc) (w := W) (cs := u0.toList) (fuel := h0.choose) (by simpa [Value.cells] using h0.choose_spec) (fun n hn => by simpa using List.all_eq_true.1 hsz n (DataW.weights_mem_each (j := 0) rfl rfl n hn))
  obtain rfl : u0 = #[.int .i64 t0_, .slice a0 N0.length cap0] := by cases u0; simp_all
  have bk0 := bk_tree (enc := enc) (w := W) (fuel := h0.choose) (by simpa [Value.cells] using h0.choose_spec) w0
  have bt0 : Rows.uptoBulk d0 ≤ 1048576 := Nat.le_trans (bk_part (by simp)) (of_decide_eq_true hk)
  have u0 : bsum N0 ≤ 1048576 := Nat.le_trans bk0 bt0
  have k1 := h1
  have lt1 : ∀ x ∈ p1, x.block < W.heap.size := by obtain ⟨m, hm⟩ := k1; exact DataW.trod_lt m _ _ _ hm
  obtain ⟨a1, rfl, rfl, rfl, w1⟩ := open_int Try.underlying3 (hval 1 3 v1 rfl rfl) h1
  clear hA0 hval0
  refine (walk t0_ a0 cap0 N0 a1 W w0 u0 w1).mono fun e W' ⟨he, bel⟩ => ?_
  subst he
  exact ⟨_, rfl, _, _, _, [], _, [], hW', trodAll_mk1 (shut_bool Try.underlying4 _), (trodAll_cons_mk (Below.trod laidOut (by kernel_rfl) (of_decide_eq_true (by kernel_rfl)) k0 bel lt0) (trodAll_cons_mk (Below.trod laidOut (by kernel_rfl) (of_decide_eq_true (by kernel_rfl)) k1 bel lt1) trodAll_mk0)), rfl, bel.frame _, fun h => by cases h⟩

theorem over : Rows.soloJoinsUptoRow.holds Try.pinned (Rows.OpenSpec.upto Rows.soloJoinsSpec) :=
  OpenClaim.holds_of_cond 6 Try.f6 rfl rfl rfl rfl rfl rfl rfl ⟨rfl, rfl, rfl, rfl, rfl⟩ rfl rfl rfl rfl rfl (by kernel_rfl) Try.func6 (by kernel_rfl)
    (of_decide_eq_true (by kernel_rfl)) (by unfold Func.isWrapper; first | (rw [if_pos (by decide +kernel)]; kernel_rfl) | (rw [if_neg (by decide +kernel)]; exact ⟨rfl, rfl⟩))
    (fun os started H enc _ F => lifted os started H enc F)

theorem soloJoinsHolds : Rows.SoloJoinsUptoSaid := over
#print axioms soloJoinsHolds
end Go.Proofs.Ytpdliokpbnpppaa.soloJoins

