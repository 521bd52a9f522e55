/- 'osierlaw6.CutPut' returns true for every argument. No condition. -/
import Derived.Test.YtellkcppgfghhaaRows
import Derived.Test.YtellkcppgfghhaaCtM
import Derived.Test.YtellkcppgfghhaaCtAwk
import Derived.Test.YtellkcppgfghhaaPtO
import Derived.Test.YtellkcppgfghhaaPtA
import Derived.Test.YtellkcppgfghhaaNArgs
import Derived.Test.YtellkcppgfghhaaNForm
import Derived.Test.YtellkcppgfghhaaNSays
import Derived.Deep.RegionHeld3
import Derived.LoopTactic
import Derived.WalkKit
import Derived.ProofKit
import Derived.OpenShut
import Derived.ChangeOld
import Derived.Below
namespace Go.Proofs.Ytellkcppgfghhaa.cutPut
open Go.ChangeShapes Go.WideShapes Go.ChangeAt Go.RowKit
set_option linter.all false

theorem own : ownKnob Try.prog.godebug = none := by kernel_rfl
theorem laidOut : laidOutB Try.prog = true := by kernel_rfl

theorem PRow.blk {W : World} {B : Nat} {ao : Option Addr} {n cap : Nat} {l : List Pr} (h : PRow W (fun j => j < B) (.slice ao n cap) l) (hB : B < W.heap.size) : ∃ g, B ≤ g ∧ g < W.heap.size ∧ ∀ b o, ao = some ⟨b, o, none⟩ → b = g := by
  rcases h.row.2 with ⟨e, _⟩ | ⟨g, cap', cur, e, _, hg, _⟩
  · cases e
    exact ⟨B, Nat.le_refl _, hB, fun b o e => by cases e⟩
  · cases e
    refine ⟨g, ?_, (Array.getElem?_eq_some_iff.1 hg).1, fun b o e => by cases e; rfl⟩
    have := h.av g rfl
    omega
/-- What the loop that cuts keeps: the arena has not the row's block; the row; the treap of what is left. -/
def TLoop (W wz : World) (F : Nat → Prop) (p gb : Nat) (LL : List It) (l tk : List Pr) (ao : Option Addr) (cp n : Nat) (x : Int) : Prop :=
  ∃ M : List It, Wk W wz p F 60000 0 (LL ++ M) gb gb ∧ Prs wz ao cp tk ∧ M.length ≤ n * 60 ∧ Tree (LL ++ M) x (cutsL l (tk.take n))
theorem TLoop.begin {W wz : World} {F : Nat → Prop} {p : Nat} {LL : List It} {l tk : List Pr} {ao : Option Addr} {cp gb m : Nat} {x : Int} (hA : Arena W p F 60000 0 LL) (B : Below W.heap.size W wz) (R : PRow wz (fun j => j < W.heap.size) (.slice ao m cp) tk) (hm : m = tk.length)
    (h1 : W.heap.size ≤ gb) (h2 : gb < wz.heap.size) (T : Tree LL x l) : TLoop W wz F p gb LL l tk ao cp 0 x :=
  ⟨[], by rw [List.append_nil]; exact Wk.begin hA B h1 h1 h2 h2, R.prs hm, by simp, by rw [List.append_nil]; exact T⟩
theorem PRow.addr {w : World} {S : Nat → Prop} {ao : Option Addr} {n cap : Nat} {l : List Pr} (h : PRow w S (.slice ao n cap) l) : ∀ b o, ao = some ⟨b, o, none⟩ → b < w.heap.size ∧ o = 0 := by
  rintro b o rfl
  rcases h.row.2 with ⟨e, _⟩ | ⟨g, cap', cur, e, _, hg, _⟩
  · cases e
  · cases e
    exact ⟨(Array.getElem?_eq_some_iff.1 hg).1, rfl⟩
/-- A round: one key less. -/
def RSays (W : World) (F : Nat → Prop) (p gb : Nat) (LL : List It) (l tk : List Pr) (ao : Option Addr) (cp n : Nat) (x1 : Int) (e : Ending) (w' : World) : Prop :=
  ∃ x' : Int, e = .returned (.tuple #[.int .i64 x', .int .i64 x1, .bool true, .int .i64 0]) ∧ TLoop W w' F p gb LL l tk ao cp (n + 1) x'
theorem round_cut {W wz : World} {F : Nat → Prop} {p gb k : Nat} {LL : List It} {l tk : List Pr} {ao : Option Addr} {cp n : Nat} {x x0 x1 : Int} (H : TLoop W wz F p gb LL l tk ao cp n x) (hs : Srt l) (hl : l.length ≤ 30) (hLL : LL.length ≤ 200) (hg : ∀ b o, ao = some ⟨b, o, none⟩ → b = gb) (htk : l.drop k ++ l.take k = tk) (hq : tk[n]? = some (x0, x1)) :
    Calls Try.prog 17 #[.pointer (some ⟨p, 0, none⟩), .int .i64 x, .int .i64 x0] (wz.alloc (.cells #[.int .i64 x0, .int .i64 x1] 24)) (RSays W F p gb LL l tk ao cp n x1) := by
  obtain ⟨M, hW, hP, hM, hT⟩ := H
  have hal := (Below.refl wz.heap.size wz).alloc (Nat.le_refl _) (.cells #[.int .i64 x0, .int .i64 x1] 24)
  have hW2 := hW.below hal
  have hsr := cutsL_srt (tk.take n) hs
  have hlen := cutsL_len l (tk.take n)
  have hin : (x0, x1) ∈ cutsL l (tk.take n) := by rw [← htk] at hq ⊢; exact turn_there hs k n _ hq
  have hhi := hi_le _ (cutsL l (tk.take n)) (Nat.le_refl _)
  have hn : n < 30 := by
    have h1 := (List.getElem?_eq_some_iff.1 hq).1
    rw [← htk, List.length_append, List.length_drop, List.length_take] at h1
    omega
  have etake : tk.take (n + 1) = tk.take n ++ [(x0, x1)] := by rw [List.take_succ, hq]; rfl
  refine (cut_some hW2.a hT hsr (by omega) (findL_mem hsr hin)).mono ?_
  rintro e w' ⟨x', er, M2, hg2, hQ, hc⟩
  have hmul : n * 60 ≤ 30 * 60 := Nat.mul_le_mul_right 60 (by omega)
  rcases hQ with ⟨rfl, hM2, hT2⟩ | ⟨_, hr, hM2⟩
  · rcases hc with ⟨_, rfl⟩ | ⟨he, _⟩
    · refine ⟨x', rfl, M ++ M2, by rw [← List.append_assoc]; exact hW2.go hg2, ?_, ?_, ?_⟩
      · refine prs_onlyS (hP.below hal) hg2.2 (fun b o e h => h.2.1 (hg b o e))
      · rw [List.length_append, Nat.add_mul]; omega
      · rw [← List.append_assoc, etake, cutsL_snoc]; exact hT2
    · exact absurd rfl he
  · exfalso
    simp only [List.length_append] at hr
    omega

set_option maxRecDepth 100000 in
set_option maxHeartbeats 12800000 in
theorem walk (a0 : Option Addr) (cap0 : Nat) (z0 : List Pr) (k1 v1 : Int) (a2 : Int) (w : World) (w0 : Prs w a0 cap0 z0) (r0 : Rng z0) (w1 : (Lit.int .i64 k1).wf = true ∧ (Lit.int .i64 v1).wf = true) (w2 : (Lit.int .i64 a2).wf = true) :
    Calls Try.prog 3 #[.slice a0 z0.length cap0, .agg #[.int .i64 k1, .int .i64 v1], .int .i64 a2] w fun e w' => e = .returned (.bool true) ∧ Below w.heap.size w w' := by
  have cp : ∀ W, Below w.heap.size w W → Calls Try.prog 11 #[.slice a0 z0.length cap0, .int .i64 30] W (PairsAt W 30) := fun W hb => pairs_at a0 cap0 z0 30 W (w0.below hb) r0 (by omega)
  have ba : ∀ o, Below w.heap.size w (w.alloc o) := fun o => (Below.refl _ _).alloc (Nat.le_refl _) _
  have BA := Lib.hid ba
  have T0 := Two.new w k1 v1 24
  clear w0 r0 w1 ba
  go_enter Try.func3, Try.ntmps3
  go_wp2_with (fail)
  refine (cp _ (BA.out _)).mono ?_
  clear cp
  rintro e W2 ⟨ao, c, l, rfl, hl, hs, hr, hP, hform, hbw⟩
  have T2 := T0.keep hbw
  have HBW := Lib.hid ((BA.out _).trans (hbw.mono (BA.out _).size))
  have HP := Lib.hid hP
  have HS := Lib.hid hs
  have FORM := Lib.hid hform
  have hhi := hi_le _ l (Nat.le_refl _)
  have HHI := Lib.hid hhi
  have hcp1 := hP.1
  have hcp2 := hP.2.1
  unfold maxLen at hcp2
  clear hP hs hr hbw T0 hform BA hhi
  go_wp2_with (first
    | (go_at_call 12; ((with_reducible refine (new_held 60000 60000 W2 _ (Below.refl _ _) (by decide)).mono ?_); rintro e W3 ⟨p, rfl, h1⟩))
    | (go_at_call 13; ((with_reducible refine (laid_any W2 p _ _ _ ao c l _ [] (Nat.le_refl _) HP.out h1 Good.nil (by simp; omega) (by omega)).mono ?_); rintro e W4 ⟨t, L, rfl, h4, n4, t4, g4⟩; rw [List.nil_append] at h4 t4; have T4 := Lib.hid t4; have N4 := Lib.hid n4; have d0 := h4.old T2.c0; have d1 := h4.old T2.c1; clear t4 g4 h1 n4)))
  refine (find_any ao c l k1 W4 (HP.out.below h4.b)).mono ?_
  rintro e W5 ⟨kf, rfl, hf, hb⟩
  have h5 := h4.below hb
  have d0 := h5.old T2.c0
  have d1 := h5.old T2.c1
  clear hb h4
  rcases hf with ⟨rfl, hf⟩ | ⟨i, q, rfl, _, _, _⟩
  case inr =>
    have hi0 : (0 : Int) ≤ (i : Int) := by omega
    have ca := cawake_any W5
    go_wp2_with (go_at_call 15; ((with_reducible refine ca.mono ?_); clear ca; rintro e W14 ⟨rfl, hb14⟩; have h14 := h5.below hb14; clear hb14 h5))
    go_ret
    exact ⟨rfl, HBW.out.trans (h14.b.mono HBW.out.size)⟩
  have HF := Lib.hid hf
  have S1 := Lib.hid (withL_is_srt l k1 v1 HS.out)
  have L1 := Lib.hid (withL_le HS.out k1 v1)
  have H1 := Lib.hid (hi_le _ (withL l k1 v1) (Nat.le_refl _))
  have F1 := Lib.hid (findL_with HS.out k1 v1)
  have C1 := Lib.hid (cutL_with HS.out v1 (show (findL l k1).isSome = false by rw [hf]; rfl))
  clear hf
  go_wp2_with (fail)
  refine (put_ok h5 T4.out HS.out (by omega) (by rw [N4.out]; have := HHI.out; omega) k1 v1 0 false (by rw [HF.out]; rfl) (by rw [HF.out]; rfl)).mono ?_
  rintro e W6 ⟨u, M1, rfl, h6, hM, hT⟩
  have T6 := Lib.hid hT
  have M6 := Lib.hid hM
  have d0 := h6.old T2.c0
  have d1 := h6.old T2.c1
  clear hT hM h5
  go_wp2_with (fail)
  refine (cut_ok h6 T6.out S1.out (by have := L1.out; omega) (by rw [List.length_append, N4.out]; have := HHI.out; have := H1.out; have := L1.out; have := M6.out; omega) F1.out).mono ?_
  rintro e W7 ⟨x7, M2, rfl, h7, hM, hT⟩
  rw [C1.out] at hT
  have T7 := Lib.hid hT
  have TL := Lib.hid ((T4.out.app M1).app M2)
  have LL7 := Lib.hid (show (L ++ M1 ++ M2).length ≤ 200 by rw [List.length_append, List.length_append, N4.out]; have := HHI.out; have := H1.out; have := L1.out; have := M6.out; omega)
  have d0 := h7.old T2.c0
  have d1 := h7.old T2.c1
  have hvv : (v1 != v1) = false := by simp
  clear hT hM h6
  generalize L ++ M1 ++ M2 = LL at h7 T7 TL LL7
  go_wp2_with (fail)
  refine (says_any p _ 60000 0 LL x7 l T7.out ao c W7 (HP.out.below h7.b) h7.a (by omega)).mono ?_
  rintro e W8 ⟨rfl, hb8⟩
  have h8 := h7.below hb8
  clear hb8 h7
  obtain ⟨nk, hnk, hum⟩ := umod a2 ((l.length : Int) + 1) (by omega) (by omega)
  have hnk2 : (nk : Int) ≤ (l.length : Int) := by omega
  have hnk3 : (nk : Int) ≤ (c : Int) := by omega
  have hnk0 : (0 : Int) ≤ (nk : Int) := by omega
  have HU := Lib.hid hum
  clear hum
  go_wp2_with (fail)
  rw [HU.out]
  clear HU
  obtain ⟨n1, hn1⟩ : ∃ n1, (l.drop nk).length = n1 := ⟨_, rfl⟩
  have hn1' := hn1
  rw [List.length_drop] at hn1'
  have hn2 : (l.drop nk).length + (l.take nk).length = l.length := by rw [List.length_drop, List.length_take]; omega
  have HN1 := Lib.hid hn1
  have HN2 := Lib.hid hn2
  obtain ⟨tk, htk⟩ : ∃ tk, l.drop nk ++ l.take nk = tk := ⟨_, rfl⟩
  have LTK := Lib.hid (show tk.length = l.length by rw [← htk, List.length_append]; exact hn2)
  have HTK := Lib.hid htk
  have b3 : Below W8.heap.size W8 (W8.alloc (.cells #[] 24)) := (Below.refl _ _).alloc (Nat.le_refl _) _
  have B3 := Lib.hid (b3.trans ((Below.refl _ _).drew.mono b3.size))
  have R3 := Lib.hid ((PRow.lit W8).below (Below.refl _ _).drew)
  have HS3 : Hid (∀ W : World, W8.heap.size ≤ W.heap.size → ∀ j, j < W8.heap.size → j < W.heap.size) := Lib.hid (fun W hW j hj => by omega)
  have G3 : Hid (W8.heap.size < (W8.alloc (.cells #[] 24)).drew.heap.size) := Lib.hid (by simp)
  clear hn1 hn2 b3 htk
  rcases FORM.out with ⟨rfl, rfl, rfl⟩ | ⟨g, og, rfl⟩
  · obtain rfl : nk = 0 := by simp at hnk; omega
    clear hn1' HN1 HN2 LTK HTK hnk hnk2 hnk3 hnk0 hcp1 hcp2
    go_region_held3 (fun W => True) (exact True.intro)
      (first
        | (refine step_app rfl (.tmp 98) (.tmp 101) rfl (fun j => j < W8.heap.size) _ [] [] rfl R3.out (HS3.out _ B3.out.size) (.slice none 0 0) rfl src_none (by simp) 0 rfl [] rfl ?_; intro ao1 cp1 w4 hm1 hc1 hR1 hO1; have S4 := Lib.hid hO1.size; have B4 := Lib.hid (only_lt B3.out hO1); have R4 := Lib.hid hR1; clear hR1 hO1; unfold maxLen at hm1)
        | (refine step_app rfl (.tmp 102) (.tmp 105) rfl (fun j => j < W8.heap.size) (.slice ao1 0 cp1) [] [] rfl R4.out (HS3.out _ B4.out.size) (.slice none 0 0) rfl src_none (by simp) 0 rfl [] rfl ?_; intro ao2 cp2 w5 hm2 hc2 hR2 hO2; have S5 := Lib.hid hO2.size; have B5 := Lib.hid (only_lt B4.out hO2); have R5 := Lib.hid hR2; clear hR2 hO2; unfold maxLen at hm2))
    have hgb := PRow.blk R5.out (Nat.lt_of_lt_of_le G3.out (Nat.le_trans S4.out S5.out))
    obtain ⟨gb, g1, g2, g3⟩ := hgb
    have G := Lib.hid g3
    have H8 := Lib.hid h8
    have TS := Lib.hid (TLoop.begin (gb := gb) h8.a B5.out R5.out (by rfl) g1 g2 T7.out)
    clear g1 g2 g3 h8 R3 R4 R5 B3 B4 B5 S4 S5
    go_wp2_with (fail)
    go_loopw [15, 108] (fun xv i wz => ∃ (n : Nat) (x : Int), n ≤ 0 ∧ xv = .int .i64 x ∧ i = .int .i64 n ∧ TLoop W8 wz (fun k => W2.heap.size ≤ k) p gb LL [] [] ao2 cp2 n x) (fun _ i _ => 0 - (intOf i).toNat)
    case atStart => exact ⟨0, x7, Nat.zero_le _, rfl, rfl, TS.out⟩
    case round =>
      clear TS
      obtain ⟨n, x, hn, rfl, rfl, hT⟩ := hrel
      have HT := Lib.hid hT
      clear hT
      obtain rfl : n = 0 := by omega
      have hx : x = 0 := by obtain ⟨M, _, _, _, hT9⟩ := HT.out; exact Tree.nil_zero hT9
      subst hx
      have SA : ∀ (M : List It) (T : Tree (LL ++ M) t []) (W : World) (F : Nat → Prop) (hA : Arena W p F 60000 0 (LL ++ M)), Calls Try.prog 18 #[.pointer (some ⟨p, 0, none⟩), .int .i64 t, .slice none 0 0] W fun e w' => e = .returned (.int .i64 0) ∧ Below W.heap.size W w' :=
        fun M T W F hA => says_any p F 60000 0 (LL ++ M) t [] T none 0 W ⟨Nat.le_refl _, Nat.zero_le _, fun n q hq => by simp at hq⟩ hA (by simp)
      have HSA := Lib.hid SA
      clear SA
      obtain ⟨M, hW, _, _, hT9⟩ := HT.out
      have h9 := H8.out.grew hW.grew (fun _ hk => hk)
      have TL9 := Lib.hid (TL.out.app M)
      clear HT H8 hW
      go_wp2_with (first
        | (go_at_call 18; ((with_reducible refine (HSA.out M TL9.out wr _ h9.a).mono ?_); rintro e w11 ⟨rfl, hb11⟩; have h11 := h9.below hb11; clear hb11 h9))
        | (go_at_call 15; ((with_reducible refine (cawake_any w11).mono ?_); rintro e w14 ⟨rfl, hb14⟩; have h14 := h11.below hb14; clear hb14)))
      go_ret
      exact ⟨rfl, HBW.out.trans (h14.b.mono HBW.out.size)⟩
  by_cases hcn : c = nk
  · subst hcn
    have S1 : Hid (Source (W8.alloc (.cells #[] 24)).drew (.slice (some ⟨g, og, none⟩) n1 0) (l.drop c).length (cellsP (l.drop c))) :=
      Lib.hid (by rw [List.drop_eq_nil_of_le hcp1]; exact src_nil (by omega))
    have PT := Lib.hid (prs_takeI HP.out c (by omega))
    go_region_held3 (fun W => True) (exact True.intro)
      (first
        | (refine step_app rfl (.tmp 98) (.tmp 101) rfl (fun j => j < W8.heap.size) _ [] (l.drop c) rfl R3.out (HS3.out _ B3.out.size) (.slice (some ⟨g, og, none⟩) n1 0) rfl S1.out (by simp; omega) n1 (by rw [List.length_nil, Nat.zero_add]; exact HN1.out) (l.drop c) rfl ?_; intro ao1 cp1 w4 hm1 hc1 hR1 hO1; have S4 := Lib.hid hO1.size; have B4 := Lib.hid (only_lt B3.out hO1); have R4 := Lib.hid hR1; clear hR1 hO1; unfold maxLen at hm1)
        | (refine step_app rfl (.tmp 102) (.tmp 105) rfl (fun j => j < W8.heap.size) (.slice ao1 n1 cp1) (l.drop c) (l.take c) rfl R4.out (HS3.out _ B4.out.size) (.slice (some ⟨g, og, none⟩) c c) rfl (src_prs (PT.out.below (h8.b.trans (B4.out.mono h8.b.size))) (by rw [List.length_take]; omega)) (by have := HN2.out; omega) l.length HN2.out tk HTK.out ?_; intro ao2 cp2 w5 hm2 hc2 hR2 hO2; have S5 := Lib.hid hO2.size; have B5 := Lib.hid (only_lt B4.out hO2); have R5 := Lib.hid hR2; clear hR2 hO2; unfold maxLen at hm2))
    have hgb := PRow.blk R5.out (Nat.lt_of_lt_of_le G3.out (Nat.le_trans S4.out S5.out))
    obtain ⟨gb, g1, g2, g3⟩ := hgb
    have G := Lib.hid g3
    have H8 := Lib.hid h8
    have TS := Lib.hid (TLoop.begin (gb := gb) h8.a B5.out R5.out LTK.out.symm g1 g2 T7.out)
    clear g1 g2 g3 h8 R3 R4 R5 B3 B4 B5 S4 S5
    go_wp2_with (fail)
    go_loopw [15, 108] (fun xv i wz => ∃ (n : Nat) (x : Int), n ≤ l.length ∧ xv = .int .i64 x ∧ i = .int .i64 n ∧ TLoop W8 wz (fun k => W2.heap.size ≤ k) p gb LL l tk ao2 cp2 n x) (fun _ i _ => l.length - (intOf i).toNat)
    case atStart => exact ⟨0, x7, Nat.zero_le _, rfl, rfl, TS.out⟩
    case round =>
      clear TS
      obtain ⟨n, x, hn, rfl, rfl, hT⟩ := hrel
      have HT := Lib.hid hT
      clear hT
      by_cases hlt : n < l.length
      · obtain ⟨q, hq⟩ : ∃ q, tk[n]? = some q := ⟨_, List.getElem?_eq_getElem (by rw [LTK.out]; exact hlt)⟩
        have hPt : Prs wr ao2 cp2 tk := by obtain ⟨M, _, hP, _, _⟩ := HT.out; exact hP
        obtain ⟨b9, o9, rfl, c0, c1⟩ := hPt.2.2 n q hq
        obtain ⟨x0, x1⟩ := q
        dsimp only at c0 c1
        have cw := round_cut HT.out HS.out hl LL7.out G.out HTK.out hq
        clear hq hPt HT
        go_wp2_with (fail)
        refine cw.mono ?_
        clear cw
        rintro e w11 ⟨x', rfl, hT⟩
        have HT := Lib.hid hT
        clear hT
        go_wp2_with (fail)
        go_roundw
        case rel => exact ⟨n + 1, x', by omega, rfl, by go_num, HT.out⟩
        case measure => simp [intOf]; omega
      · obtain rfl : n = l.length := by omega
        have hx : x = 0 := by
          obtain ⟨M, _, _, _, hT9⟩ := HT.out
          rw [List.take_of_length_le (by rw [LTK.out]; exact Nat.le_refl _), ← HTK.out, turn_none] at hT9
          exact Tree.nil_zero hT9
        subst hx
        obtain ⟨M, hW, _, _, hT9⟩ := HT.out
        have h9 := H8.out.grew hW.grew (fun _ hk => hk)
        have TL9 := Lib.hid (TL.out.app M)
        clear HT H8 hW
        go_wp2_with (first
          | (go_at_call 18; ((with_reducible refine (says_any p _ 60000 0 (LL ++ M) t l TL9.out _ c wr (HP.out.below h9.b) h9.a (by omega)).mono ?_); rintro e w11 ⟨rfl, hb11⟩; have h11 := h9.below hb11; clear hb11 h9))
          | (go_at_call 15; ((with_reducible refine (cawake_any w11).mono ?_); rintro e w14 ⟨rfl, hb14⟩; have h14 := h11.below hb14; clear hb14)))
        go_ret
        exact ⟨rfl, HBW.out.trans (h14.b.mono HBW.out.size)⟩
  · have hnc : ¬ nk = c := fun e => hcn e.symm
    have hc0 : ¬ c = 0 := by omega
    have S1 : Hid (Source (W8.alloc (.cells #[] 24)).drew (.slice (some ⟨g, og + nk * 2, none⟩) n1 (c - nk)) (l.drop nk).length (cellsP (l.drop nk))) :=
      Lib.hid (src_prs (prs_dropI (HP.out.below (h8.b.trans (B3.out.mono h8.b.size))) nk (by omega)) HN1.out.symm)
    have PT := Lib.hid (prs_takeI HP.out nk (by omega))
    go_region_held3 (fun W => True) (exact True.intro)
      (first
        | (refine step_app rfl (.tmp 98) (.tmp 101) rfl (fun j => j < W8.heap.size) _ [] (l.drop nk) rfl R3.out (HS3.out _ B3.out.size) (.slice (some ⟨g, og + nk * 2, none⟩) n1 (c - nk)) rfl S1.out (by simp; omega) n1 (by rw [List.length_nil, Nat.zero_add]; exact HN1.out) (l.drop nk) rfl ?_; intro ao1 cp1 w4 hm1 hc1 hR1 hO1; have S4 := Lib.hid hO1.size; have B4 := Lib.hid (only_lt B3.out hO1); have R4 := Lib.hid hR1; clear hR1 hO1; unfold maxLen at hm1)
        | (refine step_app rfl (.tmp 102) (.tmp 105) rfl (fun j => j < W8.heap.size) (.slice ao1 n1 cp1) (l.drop nk) (l.take nk) rfl R4.out (HS3.out _ B4.out.size) (.slice (some ⟨g, og, none⟩) nk c) rfl (src_prs (PT.out.below (h8.b.trans (B4.out.mono h8.b.size))) (by rw [List.length_take]; omega)) (by have := HN2.out; omega) l.length HN2.out tk HTK.out ?_; intro ao2 cp2 w5 hm2 hc2 hR2 hO2; have S5 := Lib.hid hO2.size; have B5 := Lib.hid (only_lt B4.out hO2); have R5 := Lib.hid hR2; clear hR2 hO2; unfold maxLen at hm2))
    have hgb := PRow.blk R5.out (Nat.lt_of_lt_of_le G3.out (Nat.le_trans S4.out S5.out))
    obtain ⟨gb, g1, g2, g3⟩ := hgb
    have G := Lib.hid g3
    have H8 := Lib.hid h8
    have TS := Lib.hid (TLoop.begin (gb := gb) h8.a B5.out R5.out LTK.out.symm g1 g2 T7.out)
    clear g1 g2 g3 h8 R3 R4 R5 B3 B4 B5 S4 S5
    go_wp2_with (fail)
    go_loopw [15, 108] (fun xv i wz => ∃ (n : Nat) (x : Int), n ≤ l.length ∧ xv = .int .i64 x ∧ i = .int .i64 n ∧ TLoop W8 wz (fun k => W2.heap.size ≤ k) p gb LL l tk ao2 cp2 n x) (fun _ i _ => l.length - (intOf i).toNat)
    case atStart => exact ⟨0, x7, Nat.zero_le _, rfl, rfl, TS.out⟩
    case round =>
      clear TS
      obtain ⟨n, x, hn, rfl, rfl, hT⟩ := hrel
      have HT := Lib.hid hT
      clear hT
      by_cases hlt : n < l.length
      · obtain ⟨q, hq⟩ : ∃ q, tk[n]? = some q := ⟨_, List.getElem?_eq_getElem (by rw [LTK.out]; exact hlt)⟩
        have hPt : Prs wr ao2 cp2 tk := by obtain ⟨M, _, hP, _, _⟩ := HT.out; exact hP
        obtain ⟨b9, o9, rfl, c0, c1⟩ := hPt.2.2 n q hq
        obtain ⟨x0, x1⟩ := q
        dsimp only at c0 c1
        have cw := round_cut HT.out HS.out hl LL7.out G.out HTK.out hq
        clear hq hPt HT
        go_wp2_with (fail)
        refine cw.mono ?_
        clear cw
        rintro e w11 ⟨x', rfl, hT⟩
        have HT := Lib.hid hT
        clear hT
        go_wp2_with (fail)
        go_roundw
        case rel => exact ⟨n + 1, x', by omega, rfl, by go_num, HT.out⟩
        case measure => simp [intOf]; omega
      · obtain rfl : n = l.length := by omega
        have hx : x = 0 := by
          obtain ⟨M, _, _, _, hT9⟩ := HT.out
          rw [List.take_of_length_le (by rw [LTK.out]; exact Nat.le_refl _), ← HTK.out, turn_none] at hT9
          exact Tree.nil_zero hT9
        subst hx
        obtain ⟨M, hW, _, _, hT9⟩ := HT.out
        have h9 := H8.out.grew hW.grew (fun _ hk => hk)
        have TL9 := Lib.hid (TL.out.app M)
        clear HT H8 hW
        go_wp2_with (first
          | (go_at_call 18; ((with_reducible refine (says_any p _ 60000 0 (LL ++ M) t l TL9.out _ c wr (HP.out.below h9.b) h9.a (by omega)).mono ?_); rintro e w11 ⟨rfl, hb11⟩; have h11 := h9.below hb11; clear hb11 h9))
          | (go_at_call 15; ((with_reducible refine (cawake_any w11).mono ?_); rintro e w14 ⟨rfl, hb14⟩; have h14 := h11.below hb14; clear hb14)))
        go_ret
        exact ⟨rfl, HBW.out.trans (h14.b.mono HBW.out.size)⟩

set_option maxRecDepth 100000 in
theorem lifted (os : Os) (started : os.Started) (H : Type) (enc : TypeId × Value → H) :
    ReturnsInHanded {} Try.checked os 3 .any (Rows.cutPutSpec.pre6 enc Try.prog Try.f3 Rows.cutPutRow.domain false) (Rows.cutPutSpec.post enc Try.prog Try.f3 false true false false) := by
  refine returnsInHanded_of_change (C := Try.checked) own started (by kernel_rfl) Try.func3
    (ChangeSpec.witness6 (enc := enc) (C := Try.checked) false ⟨#[], #[.slice none 0 0, .agg #[.int .i64 0, .int .i64 0], .int .i64 0], []⟩ 8 (by kernel_rfl) (by kernel_rfl) (by kernel_rfl) (by kernel_rfl)) ?_
  intro W base args ds gs before hval0 hW hcnd _
  have hval : ∀ (j : Nat) t v, Try.f3.params[j]? = some t → args[j]? = some v → Value.okWide Try.prog W .any base t v := hval0
  have hW' := hW
  obtain ⟨p, q, hA0, hV, rfl, hfz, hnd⟩ := hW
  have hA : DataW.TrodAll enc Try.prog W 0 (fun _ => true) true Try.f3.params.toList args.toList ds p := hA0
  rw [Try.params3] at hA hval
  obtain ⟨v0, vs0, d0, ds0, p0, q0, hargs, rfl, rfl, h0, r0⟩ := trodAll_cons hA
  obtain ⟨v1, vs1, d1, ds1, p1, q1, rfl, rfl, rfl, h1, r1⟩ := trodAll_cons r0
  obtain ⟨v2, vs2, d2, ds2, p2, q2, rfl, rfl, rfl, h2, r2⟩ := trodAll_cons r1
  obtain ⟨rfl, rfl, rfl⟩ := trodAll_nil r2
  obtain rfl : args = #[v0, v1, v2] := by cases args; simp_all
  obtain ⟨rfl, rfl⟩ := trodVars_none hV
  have k0 := h0
  have lt0 : ∀ x ∈ p0, x.block < W.heap.size := by obtain ⟨m, hm⟩ := k0; exact DataW.trod_lt m _ _ _ hm
  obtain ⟨b0, l0, c0, rfl⟩ := okWide_slice Try.underlying22 (hval 0 22 v0 rfl rfl)
  obtain ⟨a0, cap0, z0, e0, w0, g0⟩ := open_pairsw (enc := enc) (w := W) (v := .slice b0 l0 c0) (fuel := h0.choose) (by simpa [Value.cells] using h0.choose_spec)
  rw [e0] at hval k0 h0 hW' hval0 hA0
  have k1 := h1
  have lt1 : ∀ x ∈ p1, x.block < W.heap.size := by obtain ⟨m, hm⟩ := k1; exact DataW.trod_lt m _ _ _ hm
  obtain ⟨u1, rfl, _⟩ := okWide_struct Try.underlying24 (hval 1 24 v1 rfl rfl)
  obtain ⟨k1_, v1_, e1, w1⟩ := fields_pairw (enc := enc) (w := W) (cs := u1.toList) (fuel := h1.choose) (by simpa [Value.cells] using h1.choose_spec)
  obtain rfl : u1 = #[.int .i64 k1_, .int .i64 v1_] := by cases u1; simp_all
  have k2 := h2
  have lt2 : ∀ x ∈ p2, x.block < W.heap.size := by obtain ⟨m, hm⟩ := k2; exact DataW.trod_lt m _ _ _ hm
  obtain ⟨a2, rfl, rfl, rfl, w2⟩ := open_int Try.underlying3 (hval 2 3 v2 rfl rfl) h2
  clear hA0 hval0
  rw [e0]; refine (walk a0 cap0 z0 k1_ v1_ a2 W w0 g0 w1 w2).mono fun e W' ⟨he, bel⟩ => ?_
  subst he
  exact ⟨_, rfl, _, _, _, [], _, [], hW', trodAll_mk1 (shut_bool Try.underlying4 _), (trodAll_cons_mk (Below.trod laidOut (by kernel_rfl) (of_decide_eq_true (by kernel_rfl)) k0 bel lt0) (trodAll_cons_mk (Below.trod laidOut (by kernel_rfl) (of_decide_eq_true (by kernel_rfl)) k1 bel lt1) (trodAll_cons_mk (Below.trod laidOut (by kernel_rfl) (of_decide_eq_true (by kernel_rfl)) k2 bel lt2) trodAll_mk0))), rfl, bel.frame _, fun h => by cases h⟩

theorem over : Rows.cutPutRow.holds Try.pinned (OpenSpec.ofChange Rows.cutPutSpec) :=
  OpenClaim.holds_of_wide 3 Try.f3 rfl rfl rfl rfl rfl rfl rfl ⟨rfl, rfl, rfl, rfl, rfl⟩ rfl rfl rfl rfl rfl (by kernel_rfl) Try.func3 (by kernel_rfl)
    (of_decide_eq_true (by kernel_rfl)) (by unfold Func.isWrapper; first | (rw [if_pos (by decide +kernel)]; kernel_rfl) | (rw [if_neg (by decide +kernel)]; exact ⟨rfl, rfl⟩))
    (fun os started H enc _ => lifted os started H enc)

theorem cutPutHolds : Rows.CutPutSaid := over
#print axioms cutPutHolds
end Go.Proofs.Ytellkcppgfghhaa.cutPut
