/- 'osierlaw10.SoundOne' returns true for every two slices of pairs and every pair. No condition. -/
import Derived.Test.YtbmlpdkbiipcmaaRows
import Derived.Test.YtbmlpdkbiipcmaaSoA
import Derived.Test.YtbmlpdkbiipcmaaSoE
import Derived.Test.YtbmlpdkbiipcmaaNForm
import Derived.Deep.RegionHeld3
import Derived.Deep.QuietTactic
import Derived.BigQuiet
import Derived.LoopTactic
import Derived.WalkKit
import Derived.ProofKit
import Derived.OpenShut
import Derived.ChangeOld
import Derived.Below
namespace Go.Proofs.Ytbmlpdkbiipcmaa.soundOne
open Go.ChangeShapes Go.WideShapes Go.ChangeAt Go.RowKit
set_option linter.all false

theorem own : ownKnob Try.prog.godebug = none := by kernel_rfl
theorem laidOut : laidOutB Try.prog = true := by kernel_rfl

theorem last_up {l : List Pr} (hs : Srt l) {q : Pr} (hq : l[l.length - 1]? = some q) {k : Int} (hk : q.1 < k) : ∀ z ∈ l, z.1 < k := by
  intro z hz
  obtain ⟨j, hj⟩ := List.getElem?_of_mem hz
  have hjl := (List.getElem?_eq_some_iff.1 hj).1
  by_cases e : j = l.length - 1
  · subst e
    rw [hj] at hq
    cases hq
    exact hk
  · have := hs.at j (l.length - 1) z q (by omega) hj hq
    omega
theorem one_may {L : List It} {t x y k v n s h : Int} {A B : List Pr} {q : Pr} (ap : Apart L t x y A B q) (hl : A.length + B.length + 1 ≤ 40) (hlast : ∀ z ∈ A ++ q :: B, z.1 < k) (hn : n = (L.length : Int) + 1)
    (es : s = ((A ++ q :: B).length : Int) + 1) (eh : h = (hi (A ++ q :: B) : Int) + 1) {L' : List It} (hL : L ++ [(1, [k, v, t, 0, s, h])] = L') :
    mayL L' n = abv k q.1 := by
  have T : Tree L t (A ++ q :: B) := Tree.cat ap.srt ap.top ap.item (by omega) (by omega) ap.hx ap.hy ap.x0 ap.y0 ap.tx ap.ty
  have T' : Tree L' t (A ++ q :: B) := by rw [← hL]; exact T.app _
  have it : itemAt L' n = some (1, [k, v, t, 0, s, h]) := by rw [← hL]; exact itemAt_new _ _ _ hn
  have ht := (T.hung (by rw [List.length_append, List.length_cons]; omega)).2
  have e0 : valL L' t 0 = q.1 := by rw [← hL]; exact (node_says (itemAt_app ap.item _)).2.1
  cases hv : abv k q.1
  · exact may_not it T' (by omega) ap.srt (by rw [List.length_append, List.length_cons]; omega) (by simp) (by rw [e0]; exact hv)
  · have hs : Srt ((A ++ q :: B) ++ (k, v) :: []) := by
      unfold Srt
      rw [List.pairwise_append]
      refine ⟨ap.srt, by simp, fun a ha b hb => ?_⟩
      rw [List.mem_singleton] at hb
      subst hb
      exact hlast a ha
    rw [may_over it T' .nil (by omega) (by omega) hs (by rw [List.length_append, List.length_cons]; simp; omega) ?_]
    · rw [es, eh, hi_neg [] (by rw [topL_nil]; decide)]
      have := hi_le _ (A ++ q :: B) (Nat.le_refl _)
      generalize (A ++ q :: B).length = a at *
      generalize hi (A ++ q :: B) = b at *
      simp
      omega
    · intro z hz
      rw [List.append_nil] at hz
      rcases List.mem_append.1 hz with hz | hz
      · exact abv_trans _ _ _ hv (ap.top z (by simp [hz]))
      · rcases List.mem_cons.1 hz with rfl | hz
        · exact hv
        · exact abv_trans _ _ _ hv (ap.top z (by simp [hz]))
section
variable {W3 W W' : World} {bb b o p : Nat} {k v key : Int} {L : List It}
def OneR (W3 : World) (bb b o p : Nat) (k key : Int) (L : List It) (W : World) : Prop :=
  W.cell? ⟨bb, 0, none⟩ = some (.int .i64 k) ∧ W.cell? ⟨b, o, none⟩ = some (.int .i64 key) ∧ Held W3 W p 400 0 L
theorem or_keep (H : OneR W3 bb b o p k key L W) (hb : Below W.heap.size W W') : OneR W3 bb b o p k key L W' := by
  obtain ⟨h0, h1, hH⟩ := H
  have go : ∀ {q : Addr} {v : Value}, W.cell? q = some v → W'.cell? q = some v := fun hc => (hb.cell (World.block_lt_of_cell? W _ hc)).trans hc
  exact ⟨go h0, go h1, hH.below hb⟩
theorem or_held (H : W.cell? ⟨bb, 0, none⟩ = some (.int .i64 k) ∧ W.cell? ⟨b, o, none⟩ = some (.int .i64 key) ∧ Held W3 W p 400 0 L) : Held W3 W p 400 0 L := H.2.2
theorem or_new (H : OneR W3 bb b o p k key L W) : ∀ W', W' = W.drew → OneR W3 bb b o p k key L W' := by
  rintro W' rfl
  exact or_keep H (Below.refl _ _).drew
end

set_option maxRecDepth 100000 in
set_option maxHeartbeats 12800000 in
theorem walk (a0 : Option Addr) (cap0 : Nat) (z0 : List Pr) (a1 : Option Addr) (cap1 : Nat) (z1 : List Pr) (k2 v2 : Int) (w : World) (w0 : Prs w a0 cap0 z0) (r0 : Rng z0) (w1 : Prs w a1 cap1 z1) (r1 : Rng z1) (w2 : (Lit.int .i64 k2).wf = true ∧ (Lit.int .i64 v2).wf = true) :
    Calls Try.prog 3 #[.slice a0 z0.length cap0, .slice a1 z1.length cap1, .agg #[.int .i64 k2, .int .i64 v2]] w fun e w' => e = .returned (.bool true) ∧ Below w.heap.size w w' := by
  have ba : Below w.heap.size w (w.alloc (.cells #[.int .i64 k2, .int .i64 v2] 24)) := (Below.refl _ _).alloc (Nat.le_refl _) _
  have cp : Calls Try.prog 7 #[.slice a0 z0.length cap0, .int .i64 40] (w.alloc (.cells #[.int .i64 k2, .int .i64 v2] 24)) (PairsIs (w.alloc (.cells #[.int .i64 k2, .int .i64 v2] 24)) 40) := pairs_srt a0 cap0 z0 40 _ (w0.below ba) r0 (by omega)
  have cq : ∀ W, Below w.heap.size w W → Calls Try.prog 7 #[.slice a1 z1.length cap1, .int .i64 40] W (PairsIs W 40) := fun W hb => pairs_srt a1 cap1 z1 40 W (w1.below hb) r1 (by omega)
  have hc0 := w0.1
  have hc1 := w0.2.1
  have hc2 := w1.1
  have hc3 := w1.2.1
  have g0 : (w.alloc (.cells #[.int .i64 k2, .int .i64 v2] 24)).cell? ⟨w.heap.size, 0, none⟩ = some (.int .i64 k2) := by simp
  have g1 : (w.alloc (.cells #[.int .i64 k2, .int .i64 v2] 24)).cell? ⟨w.heap.size, 1, none⟩ = some (.int .i64 v2) := by simp
  have HG := Lib.hid (And.intro g0 g1)
  have BA := Lib.hid ba
  clear w0 r0 w1 r1 g0 g1 ba
  unfold maxLen at hc1 hc3
  go_enter Try.func3, Try.ntmps3
  go_upto_region 2 with (first
    | (go_at_call 7; ((with_reducible refine cp.mono ?_); clear cp; rintro e W2 ⟨ao, c, l, rfl, hl, hs, hr, hP, hbw⟩; have hb2 := BA.out.trans (hbw.mono BA.out.size); have HP := Lib.hid hP; have HS := Lib.hid hs; have HRR := Lib.hid hr; have HBW := Lib.hid hbw; clear hP hs hr hbw))
    | (go_at_call 7; ((with_reducible refine (cq _ hb2).mono ?_); clear cq; rintro e W3 ⟨ao', c', m, rfl, hm, hs', hr', hP', hbw'⟩; have hb3 := hb2.trans (hbw'.mono hb2.size); have HP' := Lib.hid hP'; have HPl := Lib.hid (HP.out.below hbw'); have HS' := Lib.hid hs'; have HRR' := Lib.hid hr'; have HBW' := Lib.hid hbw'; clear hP' hs' hr' hbw')))
  have hq1 := HPl.out.1
  have hq2 := HPl.out.2.1
  have hq3 := HP'.out.1
  have hq4 := HP'.out.2.1
  unfold maxLen at hq2 hq4
  have HG3 := Lib.hid (show W3.cell? ⟨w.heap.size, 0, none⟩ = some (.int .i64 k2) ∧ W3.cell? ⟨w.heap.size, 1, none⟩ = some (.int .i64 v2) from
    ⟨(((HBW.out.trans (HBW'.out.mono HBW.out.size)).cell (World.block_lt_of_cell? _ _ HG.out.1)).trans HG.out.1), (((HBW.out.trans (HBW'.out.mono HBW.out.size)).cell (World.block_lt_of_cell? _ _ HG.out.2)).trans HG.out.2)⟩)
  have HB3 := Lib.hid hb3
  clear hb2 hb3 HG HBW HBW' BA
  go_upto_region 6 with (first
    | (go_at_call 8; ((with_reducible refine (new_held 400 400 W3 _ (Below.refl _ _) (by decide)).mono ?_); rintro e W4 ⟨p, rfl, h4⟩))
    | (go_at_call 9; ((with_reducible refine (laid_any W3 p _ _ _ ao c l _ [] (Nat.le_refl _) HPl.out h4 Good.nil (by simp; omega) (by omega)).mono ?_); rintro e W5 ⟨t, L1, rfl, h5, n5, t5, g5⟩; rw [List.nil_append] at h5 t5 g5; have T5 := Lib.hid t5; have N5 := Lib.hid n5; clear t5 h4 n5))
    | (go_at_call 9; ((with_reducible refine (laid_any W3 p _ _ _ ao c l _ L1 (Nat.le_refl _) HPl.out h5 g5 (by have := N5.out; omega) (by omega)).mono ?_); rintro e W6 ⟨u, L2, rfl, h6, n6, t6, g6⟩; have T6 := Lib.hid t6; have N6 := Lib.hid n6; clear t6 h5 n6 g5))
    | (go_at_call 9; ((with_reducible refine (laid_any W3 p _ _ _ ao' c' m _ (L1 ++ L2) (Nat.le_refl _) HP'.out h6 g6 (by rw [List.length_append]; have := N5.out; have := N6.out; omega) (by omega)).mono ?_); rintro e W7 ⟨x, L3, rfl, h7, n7, t7, g7⟩; have T7 := Lib.hid t7; have N7 := Lib.hid n7; clear t7 h6 n7 g6 g7)))
  have HT := Lib.hid (And.intro ((T5.out.app L2).app L3) (And.intro (T6.out.app L3) T7.out))
  have HLL := Lib.hid (show (L1 ++ L2 ++ L3).length ≤ 120 from by rw [List.length_append, List.length_append]; have := N5.out; have := N6.out; have := N7.out; omega)
  clear T5 T6 T7 N5 N6 N7
  generalize L1 ++ L2 ++ L3 = L at *
  obtain ⟨B, hB⟩ : ∃ B, decide (l = m) = B := ⟨_, rfl⟩
  have HB := Lib.hid hB
  clear hB
  go_upto_region 8 with (first
    | (go_at_call 10; ((with_reducible refine (tmay h7 t true (may_tree HT.out.1 HS.out (by omega))).mono ?_); rintro e W8 ⟨rfl, hb⟩; have h8 := h7.below hb; clear h7 hb))
    | (go_at_call 10; ((with_reducible refine (tmay h8 u true (may_tree HT.out.2.1 HS.out (by omega))).mono ?_); rintro e W9 ⟨rfl, hb⟩; have h9 := h8.below hb; clear h8 hb))
    | (go_at_call 10; ((with_reducible refine (tmay h9 x true (may_tree HT.out.2.2 HS'.out (by omega))).mono ?_); rintro e W10 ⟨rfl, hb⟩; have h10 := h9.below hb; clear h9 hb))
    | (go_at_call 11; ((with_reducible refine (tsame h10 HT.out.1 HT.out.2.1 HS.out HS.out HRR.out HRR.out (by omega) (by omega) true (decide_eq_true rfl)).mono ?_); rintro e W11 ⟨rfl, hb⟩; have h11 := h10.below hb; clear h10 hb))
    | (go_at_call 11; ((with_reducible refine (tsame h11 HT.out.1 HT.out.2.2 HS.out HS'.out HRR.out HRR'.out (by omega) (by omega) _ HB.out).mono ?_); rintro e W12 ⟨rfl, hb⟩; have h12 := h11.below hb; clear h11 hb))
    | (go_at_call 12; ((with_reducible refine (samep_any ao ao' c c' l m _ (HPl.out.below h12.b) (HP'.out.below h12.b) _ HB.out).mono ?_); rintro e W13 ⟨rfl, hb⟩; have h13 := h12.below hb; clear h12 hb)))
  rcases HT.out.1.apart HS.out with ⟨-, hl0⟩ | ⟨x0, y0, A, C, q, hl0, ap⟩
  · subst hl0
    clear HB
    go_quiet (fail)
    go_wp2_with (first
      | (go_at_call 13; ((with_reducible refine (sawake_any _).mono ?_); rintro e W14 ⟨rfl, hb⟩)))
    go_ret
    have h14 := (h13.below (below_drewN (Below.refl _ _) _)).below hb
    exact ⟨rfl, HB3.out.trans (h14.b.mono HB3.out.size)⟩
  · have hlen : l.length = A.length + C.length + 1 := by rw [hl0, List.length_append, List.length_cons]; omega
    obtain ⟨j, hj⟩ : ∃ j, l.length = j + 1 := ⟨A.length + C.length, by omega⟩
    obtain ⟨ql, hql⟩ : ∃ ql, l[j]? = some ql := ⟨_, List.getElem?_eq_getElem (by omega)⟩
    obtain ⟨b, o, rfl, d0, d1⟩ := (HPl.out.below h13.b).2.2 j ql hql
    have HQL := Lib.hid hql
    have HAP := Lib.hid ap
    have HL0 := Lib.hid hl0
    have HLEN := Lib.hid hlen
    obtain ⟨kl, vl⟩ := ql
    dsimp only at d0
    have x0' := h13.old HG3.out.1
    have x1' := h13.old HG3.out.2
    have hw1 : IntKind.i64.wrap ((l.length : Int) - 1) = ((j : Nat) : Int) := by rw [IntKind.wrap_i64]; omega
    have hw2 : wrap64 ((l.length : Int) - 1) = ((j : Nat) : Int) := by unfold wrap64; omega
    have hj0 : (0 : Int) ≤ (j : Int) := by omega
    have hjl : (j : Int) < (l.length : Int) := by omega
    have hjn : ¬ (j : Int) < 0 := by omega
    have hne : ((l.length : Int) == 0) = false := by rw [beq_eq_false_iff_ne]; omega
    have HJ := Lib.hid hj
    clear hql ap hl0 hlen d1 HB hj
    by_cases hle : k2 ≤ kl
    · have hd : decide (k2 ≤ kl) = true := decide_eq_true hle
      clear hle
      go_quiet (fail)
      go_wp2_with (first
        | (go_at_call 13; ((with_reducible refine (sawake_any _).mono ?_); rintro e W14 ⟨rfl, hb⟩)))
      go_ret
      have h14 := (h13.below (below_drewN (Below.refl _ _) _)).below hb
      exact ⟨rfl, HB3.out.trans (h14.b.mono HB3.out.size)⟩
    · have hd : decide (k2 ≤ kl) = false := decide_eq_false hle
      have HUP := Lib.hid (last_up HS.out (q := (kl, vl)) (by rw [show l.length - 1 = j from by have := HJ.out; omega]; exact HQL.out) (k := k2) (by show kl < k2; omega))
      clear hle
      go_quiet (fail)
      have hrl := HLEN.out
      have gT := (HT.out.1.hung (by omega)).1
      have hiL := hi_le _ l (Nat.le_refl _)
      obtain ⟨n, hn⟩ : ∃ n : Int, n = (L.length : Int) + 1 := ⟨_, rfl⟩
      obtain ⟨s, hs⟩ : ∃ s : Int, s = (l.length : Int) + 1 := ⟨_, rfl⟩
      obtain ⟨hg, hhg⟩ : ∃ s : Int, s = (hi l : Int) + 1 := ⟨_, rfl⟩
      obtain ⟨L4, hL4⟩ : ∃ M, L ++ [(1, [k2, v2, t, 0, s, hg])] = M := ⟨_, rfl⟩
      obtain ⟨bv, hbv⟩ : ∃ B, abv k2 q.1 = B := ⟨_, rfl⟩
      have cu := fun W (hW : Held W3 W p 400 0 L) => nmake_held hW k2 v2 t 0 _ _ _ _ n s hg L4 gT (Hung.zero L) (by have := HLL.out; omega) ⟨by omega, by omega⟩ ⟨by omega, by omega⟩ ⟨by omega, by omega⟩ ⟨by omega, by omega⟩ hn (by omega) (by omega) hL4.symm
      have MM : mayL L4 n = bv := by
        rw [← hbv]
        refine one_may HAP.out (by omega) (fun z hz => HUP.out z (by rw [HL0.out]; exact hz)) hn ?_ ?_ hL4
        · rw [hs, HL0.out]
        · rw [hhg, HL0.out]
      have HM := Lib.hid MM
      have htop : topL l = (A.length : Int) := by rw [HL0.out]; exact top_app HAP.out.srt HAP.out.top
      have hqt : l[A.length]? = some q := by rw [HL0.out]; simp
      obtain ⟨b', o', e', f0, -⟩ := HPl.out.2.2 A.length q hqt
      cases e'
      have F0 := Lib.hid f0
      have ct : ∀ W, Held W3 W p 400 0 L4 → Calls Try.prog 16 #[.slice (some ⟨b, o, none⟩) l.length c] W fun e w' => e = .returned (.int .i64 (A.length : Int)) ∧ Below W.heap.size W w' := by
        intro W hW
        have := top_any (some ⟨b, o, none⟩) c l W (HPl.out.below hW.b)
        rw [htop] at this
        exact this
      have ca : ∀ W, Calls Try.prog 15 #[.int .i64 k2, .int .i64 q.1] W fun e w' => e = .returned (.bool bv) ∧ Below W.heap.size W w' := by
        intro W
        refine (aboveR_any k2 q.1 W).mono ?_
        rintro e w' ⟨rfl, rfl⟩
        exact ⟨by rw [hbv], Below.refl _ _⟩
      have hi0 : (0 : Int) ≤ (A.length : Int) := by omega
      have hil : (A.length : Int) < (l.length : Int) := by omega
      have hin : ¬ (A.length : Int) < 0 := by omega
      obtain ⟨kq, hkq⟩ : ∃ k, q.1 = k := ⟨_, rfl⟩
      rw [hkq] at ca
      have HKQ := Lib.hid hkq
      clear gT hiL hn hs hhg hL4 hbv MM htop hqt f0 hkq hw1 hw2 hj0 hjl hjn hd d0 hrl
      go_upto_region 11 with (first
        | (go_at_call 14; ((with_reducible refine (cu _ (h13.below (below_drewN (Below.refl _ _) _))).mono ?_); clear cu; rintro e W14 ⟨rfl, h14⟩; clear h13 x0' x1')))
      have HO : OneR W3 w.heap.size b (o + A.length * 2) p k2 kq L4 W14 := ⟨h14.old HG3.out.1, by rw [← HKQ.out]; exact h14.old F0.out, h14⟩
      have HHO := Lib.hid HO
      clear HO h14
      go_region_held3 (fun W => W.cell? ⟨w.heap.size, 0, none⟩ = some (.int .i64 k2) ∧ W.cell? ⟨b, o + A.length * 2, none⟩ = some (.int .i64 kq) ∧ Held W3 W p 400 0 L4)
        (first | exact or_new HHO.out _ rfl | exact or_keep (by assumption) hb | go_keep)
        (first
          | (go_at_call 10; ((with_reducible refine (tmay (or_held (by assumption)) n bv HM.out).mono ?_); rintro e W15 ⟨rfl, hb⟩))
          | (go_at_call 16; ((with_reducible refine (ct _ (or_held (by assumption))).mono ?_); rintro e W16 ⟨rfl, hb⟩))
          | (go_at_call 15; ((with_reducible refine (ca _).mono ?_); rintro e W17 ⟨rfl, hb⟩))
          | (go_at_call 13; ((with_reducible refine (sawake_any _).mono ?_); rintro e W18 ⟨rfl, hb⟩)))
      all_goals
        have h19 := or_held (by assumption)
        go_wp2_with (fail)
        go_ret
        exact ⟨rfl, HB3.out.trans (h19.b.mono HB3.out.size)⟩

set_option maxRecDepth 100000 in
theorem lifted (os : Os) (started : os.Started) (H : Type) (enc : TypeId × Value → H) :
    ReturnsInHanded {} Try.checked os 3 .any (Rows.soundOneSpec.pre6 enc Try.prog Try.f3 Rows.soundOneRow.domain false) (Rows.soundOneSpec.post enc Try.prog Try.f3 false true false false) := by
  refine returnsInHanded_of_change (C := Try.checked) own started (by kernel_rfl) Try.func3
    (ChangeSpec.witness6 (enc := enc) (C := Try.checked) false ⟨#[], #[.slice none 0 0, .slice none 0 0, .agg #[.int .i64 0, .int .i64 0]], []⟩ 8 (by kernel_rfl) (by kernel_rfl) (by kernel_rfl) (by kernel_rfl)) ?_
  intro W base args ds gs before hval0 hW hcnd _
  have hval : ∀ (j : Nat) t v, Try.f3.params[j]? = some t → args[j]? = some v → Value.okWide Try.prog W .any base t v := hval0
  have hW' := hW
  obtain ⟨p, q, hA0, hV, rfl, hfz, hnd⟩ := hW
  have hA : DataW.TrodAll enc Try.prog W 0 (fun _ => true) true Try.f3.params.toList args.toList ds p := hA0
  rw [Try.params3] at hA hval
  obtain ⟨v0, vs0, d0, ds0, p0, q0, hargs, rfl, rfl, h0, r0⟩ := trodAll_cons hA
  obtain ⟨v1, vs1, d1, ds1, p1, q1, rfl, rfl, rfl, h1, r1⟩ := trodAll_cons r0
  obtain ⟨v2, vs2, d2, ds2, p2, q2, rfl, rfl, rfl, h2, r2⟩ := trodAll_cons r1
  obtain ⟨rfl, rfl, rfl⟩ := trodAll_nil r2
  obtain rfl : args = #[v0, v1, v2] := by cases args; simp_all
  obtain ⟨rfl, rfl⟩ := trodVars_none hV
  have k0 := h0
  have lt0 : ∀ x ∈ p0, x.block < W.heap.size := by obtain ⟨m, hm⟩ := k0; exact DataW.trod_lt m _ _ _ hm
  obtain ⟨b0, l0, c0, rfl⟩ := okWide_slice Try.underlying22 (hval 0 22 v0 rfl rfl)
  obtain ⟨a0, cap0, z0, e0, w0, g0⟩ := open_pairsw (enc := enc) (w := W) (v := .slice b0 l0 c0) (fuel := h0.choose) (by simpa [Value.cells] using h0.choose_spec)
  rw [e0] at hval k0 h0 hW' hval0 hA0
  have k1 := h1
  have lt1 : ∀ x ∈ p1, x.block < W.heap.size := by obtain ⟨m, hm⟩ := k1; exact DataW.trod_lt m _ _ _ hm
  obtain ⟨b1, l1, c1, rfl⟩ := okWide_slice Try.underlying22 (hval 1 22 v1 rfl rfl)
  obtain ⟨a1, cap1, z1, e1, w1, g1⟩ := open_pairsw (enc := enc) (w := W) (v := .slice b1 l1 c1) (fuel := h1.choose) (by simpa [Value.cells] using h1.choose_spec)
  rw [e1] at hval k1 h1 hW' hval0 hA0
  have k2 := h2
  have lt2 : ∀ x ∈ p2, x.block < W.heap.size := by obtain ⟨m, hm⟩ := k2; exact DataW.trod_lt m _ _ _ hm
  obtain ⟨u2, rfl, _⟩ := okWide_struct Try.underlying24 (hval 2 24 v2 rfl rfl)
  obtain ⟨k2_, v2_, e2, w2⟩ := fields_pairw (enc := enc) (w := W) (cs := u2.toList) (fuel := h2.choose) (by simpa [Value.cells] using h2.choose_spec)
  obtain rfl : u2 = #[.int .i64 k2_, .int .i64 v2_] := by cases u2; simp_all
  clear hA0 hval0
  rw [e0]; rw [e1]; refine (walk a0 cap0 z0 a1 cap1 z1 k2_ v2_ W w0 g0 w1 g1 w2).mono fun e W' ⟨he, bel⟩ => ?_
  subst he
  exact ⟨_, rfl, _, _, _, [], _, [], hW', trodAll_mk1 (shut_bool Try.underlying4 _), (trodAll_cons_mk (Below.trod laidOut (by kernel_rfl) (of_decide_eq_true (by kernel_rfl)) k0 bel lt0) (trodAll_cons_mk (Below.trod laidOut (by kernel_rfl) (of_decide_eq_true (by kernel_rfl)) k1 bel lt1) (trodAll_cons_mk (Below.trod laidOut (by kernel_rfl) (of_decide_eq_true (by kernel_rfl)) k2 bel lt2) trodAll_mk0))), rfl, bel.frame _, fun h => by cases h⟩

theorem over : Rows.soundOneRow.holds Try.pinned (OpenSpec.ofChange Rows.soundOneSpec) :=
  OpenClaim.holds_of_wide 3 Try.f3 rfl rfl rfl rfl rfl rfl rfl ⟨rfl, rfl, rfl, rfl, rfl⟩ rfl rfl rfl rfl rfl (by kernel_rfl) Try.func3 (by kernel_rfl)
    (of_decide_eq_true (by kernel_rfl)) (by unfold Func.isWrapper; first | (rw [if_pos (by decide +kernel)]; kernel_rfl) | (rw [if_neg (by decide +kernel)]; exact ⟨rfl, rfl⟩))
    (fun os started H enc _ => lifted os started H enc)

theorem soundOneHolds : Rows.SoundOneSaid := over
#print axioms soundOneHolds
end Go.Proofs.Ytbmlpdkbiipcmaa.soundOne
