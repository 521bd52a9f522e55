/- 'osierlaw8.JoinParts' returns true for every argument. No condition. -/
import Derived.Test.YtellkcppgfghhaaRows
import Derived.Test.YtellkcppgfghhaaJnP
import Derived.Test.YtellkcppgfghhaaNForm
import Derived.Test.YtellkcppgfghhaaNArgs
import Derived.Deep.RegionHeld3
import Derived.LoopTactic
import Derived.WalkKit
import Derived.ProofKit
import Derived.OpenShut
import Derived.ChangeOld
import Derived.Below
namespace Go.Proofs.Ytellkcppgfghhaa.joinParts
open Go.ChangeShapes Go.WideShapes Go.ChangeAt Go.RowKit
set_option linter.all false

theorem own : ownKnob Try.prog.godebug = none := by kernel_rfl
theorem laidOut : laidOutB Try.prog = true := by kernel_rfl

theorem vals_at {w : World} {a : Option Addr} {cap : Nat} {vs : List Int} (h : Vals w a cap vs) {i : Nat} (hi : i < vs.length) : ∃ b o, a = some ⟨b, o, none⟩ ∧ w.cell? ⟨b, o + i, none⟩ = some (.int .i64 (vs.getD i 0)) := by
  obtain ⟨h1, h2, h3⟩ := h
  cases a with
  | none => obtain ⟨rfl, _⟩ := h2 rfl; simp at hi
  | some x =>
    obtain ⟨b, o, spot⟩ := x
    have h0 := h3 _ rfl i hi
    have hs : spot = none := by simpa [Addr.add] using World.cell?_spot (h3 _ rfl 0 (by omega))
    subst hs
    rw [add_lit] at h0
    exact ⟨b, o, rfl, h0⟩
theorem src_cell {w : World} {g : Nat} {k : Int} (h : w.cell? ⟨g, 0, none⟩ = some (.int .i64 k)) : Source w (.slice (some ⟨g, 0, none⟩) 1 1) [k].length (cellsI [k]) :=
  .inr ⟨_, _, rfl, fun j u hj => by
    have hj0 : j = 0 := by have := (List.getElem?_eq_some_iff.1 hj).1; simp [cellsI] at this; omega
    subst hj0
    rw [add_lit, Nat.add_zero, h, ← hj]; rfl⟩
theorem src_take {w : World} {S : Nat → Prop} {a : Option Addr} {n cap : Nat} {l : List Int} (h : Nums w S (.slice a n cap) l) {m : Nat} (hm : m ≤ l.length) : Source w (.slice a m cap) (l.take m).length (cellsI (l.take m)) :=
  src_same (h.take hm) (by rw [List.length_take]; omega)
theorem src_drop {w : World} {S : Nat → Prop} {g n cap : Nat} {l : List Int} (h : Nums w S (.slice (some ⟨g, 0, none⟩) n cap) l) {m n' c' : Nat} (hm : m ≤ l.length) (hn : n' = l.length - m) : Source w (.slice (some ⟨g, m, none⟩) n' c') (l.drop m).length (cellsI (l.drop m)) := by
  have e : (l.drop m).length = n' := by rw [List.length_drop]; omega
  rw [e]
  refine .inr ⟨_, _, rfl, fun j u hj => ?_⟩
  have hl : m + j < l.length := by have := (List.getElem?_eq_some_iff.1 hj).1; rw [cellsI_len, List.length_drop] at this; omega
  obtain ⟨g', e', _, hc⟩ := h.at (List.getElem?_eq_getElem hl)
  cases e'
  rw [add_lit, hc, ← hj]
  simp [cellsI, List.getElem?_eq_getElem hl]
theorem src_none {w : World} {g o c : Nat} : Source w (.slice (some ⟨g, o, none⟩) 0 c) ([] : List Int).length (cellsI []) := .inr ⟨_, _, rfl, fun j u hj => by simp [cellsI] at hj⟩

set_option maxRecDepth 100000 in
set_option maxHeartbeats 25600000 in
theorem walk (a0 : Option Addr) (cap0 : Nat) (z0 : List Pr) (a1 : Option Addr) (cap1 : Nat) (z1 : List Int) (w : World) (w0 : Prs w a0 cap0 z0) (r0 : Rng z0) (w1 : Vals w a1 cap1 z1) :
    Calls Try.prog 7 #[.slice a0 z0.length cap0, .slice a1 z1.length cap1] w fun e w' => e = .returned (.bool true) ∧ Below w.heap.size w w' := by
  have cp : ∀ W, Below w.heap.size w W → Calls Try.prog 11 #[.slice a0 z0.length cap0, .int .i64 40] W (PairsIs W 40) := fun W hb => pairs_srt a0 cap0 z0 40 W (w0.below hb) r0 (by omega)
  have HV := Lib.hid w1
  have hvl := w1.1
  unfold maxLen at hvl
  clear w0 r0 w1
  go_enter Try.func7, Try.ntmps7
  go_wp2_with (fail)
  refine (cp _ (Below.refl _ _)).mono ?_
  clear cp
  rintro e W2 ⟨ao, c, l, rfl, hl, hs, hr, hP, hbw⟩
  have HBW := Lib.hid hbw
  have HP := Lib.hid hP
  have HS := Lib.hid hs
  have hhi := hi_le _ l (Nat.le_refl _)
  have HHI := Lib.hid hhi
  have hc1 := hP.1
  have hc2 := hP.2.1
  unfold maxLen at hc2
  clear hP hs hr hbw hhi
  by_cases h6 : (6 : Int) < (z1.length : Int)
  · go_wp2_with (go_at_call 25; ((with_reducible refine (jawake_any W2).mono ?_); rintro e W14 ⟨rfl, hb14⟩))
    go_ret
    exact ⟨rfl, HBW.out.trans (hb14.mono HBW.out.size)⟩
  go_wp2_with (fail)
  refine (new_held 60000 60000 W2 _ (Below.refl _ _) (by decide)).mono ?_
  rintro e W3 ⟨p, rfl, h1⟩
  go_wp2_with (fail)
  refine (laid_any W2 p _ _ _ ao c l _ [] (Nat.le_refl _) HP.out h1 Good.nil (by simp; omega) (by omega)).mono ?_
  rintro e W4 ⟨t, L, rfl, h4, n4, t4, g4⟩
  rw [List.nil_append] at h4 t4
  have T4 := Lib.hid t4
  have N4 := Lib.hid n4
  have J4 := Lib.hid (show JS W2 (fun _ => False) (fun j => j < W2.heap.size) p W4 L (.slice none 0 0) [] from ⟨h4.a.mono (fun k hk _ => ⟨hk, id, by simp [Value.ownBlock]⟩), Nums.nil _ _, h4.b⟩)
  have hn6 : z1.length ≤ 6 := by omega
  clear t4 g4 h1 n4 h4 h6
  go_wp2_with (fail)
  go_loopw [9, 46] (fun cv iv wr => ∃ (i : Nat) (ac : Option Addr) (cc : Nat) (cs : List Int) (LL : List It), cv = .slice ac i cc ∧ iv = .int .i64 i ∧ i ≤ z1.length ∧ cs.length = i ∧ i ≤ cc ∧ JS W2 (fun _ => False) (fun j => j < W2.heap.size) p wr LL (.slice ac i cc) cs ∧ Tree LL t l ∧ LL.length ≤ 40 + i * 80) (fun _ iv _ => z1.length - (intOf iv).toNat)
  case atStart => exact ⟨0, none, 0, [], L, rfl, rfl, Nat.zero_le _, rfl, Nat.zero_le _, J4.out, T4.out, by rw [N4.out]; omega⟩
  case round =>
    clear J4 T4 N4
    obtain ⟨i, ac, cc, cs, LL, rfl, rfl, hi, hcl, hic, hJ, hT, hLL⟩ := hrel
    have HCL := Lib.hid hcl
    have J0 := Lib.hid hJ
    have T0 := Lib.hid hT
    have NL := Lib.hid hLL
    have hcm : cc ≤ 9223372036854775807 := by
      obtain ⟨_, _, e, _, h⟩ := hJ.r.form
      simp only [Value.slice.injEq] at e
      unfold maxLen at h
      omega
    clear hcl hJ hT hLL
    by_cases hlt : i < z1.length
    · obtain ⟨b1, o1, rfl, dk⟩ := vals_at HV.out hlt
      obtain ⟨k, hk⟩ : ∃ k, z1.getD i 0 = k := ⟨_, rfl⟩
      rw [hk] at dk
      clear hk
      have hb0 := HBW.out.trans (J0.out.o.mono HBW.out.size)
      have dk := (hb0.cell (p := ⟨b1, o1 + i, none⟩) (World.block_lt_of_cell? w _ dk)).trans dk
      have HLT := Lib.hid hlt
      have hlI : (i : Int) < (z1.length : Int) := by omega
      have hi0 : (0 : Int) ≤ (i : Int) := by omega
      have hll := loge_len l k
      have hh1 := hi_le _ (loL l k) (Nat.le_refl _)
      have hh2 := hi_le _ (geL l k) (Nat.le_refl _)
      have LG := Lib.hid (And.intro hll (And.intro hh1 hh2))
      clear hb0 hlt hll hh1 hh2
      go_wp2_with (fail)
      refine (part_okA J0.out.a T0.out HS.out (by omega) (by have := NL.out; have := HHI.out; omega) k).mono ?_
      rintro e W5 ⟨x, y, M, rfl, hg, hM, hX, hY⟩
      have J5 := Lib.hid (J0.out.grew hg (fun k h => h.elim))
      have TX := Lib.hid hX
      have TY := Lib.hid hY
      have TM := Lib.hid (T0.out.app M)
      have NM := Lib.hid (show (LL ++ M).length ≤ 80 + i * 80 by rw [List.length_append]; have := NL.out; have := HHI.out; omega)
      clear hg hM hX hY J0 T0 NL
      generalize LL ++ M = LA at J5 TX TY TM NM
      go_wp2_with (fail)
      refine (two_okA J5.out.a TX.out TY.out (by have := LG.out; omega) (by rw [lo_ge HS.out]; exact HS.out) (by have := LG.out; have := NM.out; omega)).mono ?_
      rintro e W6 ⟨u, M2, rfl, hg2, hM2, hU⟩
      rw [lo_ge HS.out] at hU
      have J6 := Lib.hid (J5.out.grew hg2 (fun k h => h.elim))
      have TU := Lib.hid hU
      have TM2 := Lib.hid (TM.out.app M2)
      have NM2 := Lib.hid (show (LA ++ M2).length ≤ 40 + (i + 1) * 80 by rw [List.length_append]; have := NM.out; have := LG.out; omega)
      clear hg2 hM2 hU J5 TX TY TM NM
      generalize LA ++ M2 = LB at J6 TU TM2 NM2
      go_wp2_with (fail)
      refine (says_is TU.out (HP.out.below J6.out.o) J6.out.a (by omega) rfl).mono ?_
      rintro e W7 ⟨rfl, hb7⟩
      have J7 := Lib.hid (J6.out.below hb7)
      clear J6 TU hb7 dk
      go_wp2_with (fail)
      go_loop [17] (fun v => ∃ m : Nat, v = .int .i64 m ∧ m ≤ i) (fun v => i - (intOf v).toNat)
      case atStart => exact ⟨0, rfl, Nat.zero_le _⟩
      case round =>
        obtain ⟨m, rfl, hm⟩ := hrel
        have hm0 : (0 : Int) ≤ (m : Int) := by omega
        have hmi : (m : Int) ≤ (i : Int) := by omega
        have hmc : (m : Int) ≤ (cc : Int) := by omega
        by_cases hlt2 : m < i
        · obtain ⟨q, hq⟩ : ∃ q, cs[m]? = some q := ⟨_, List.getElem?_eq_getElem (by have := HCL.out; omega)⟩
          obtain ⟨g, rfl, _, dq⟩ := J7.out.r.at hq
          have hmlt : (m : Int) < (i : Int) := by omega
          clear hq
          by_cases hqk : q < k
          · have HL2 := Lib.hid hlt2
            go_wp2_with (fail)
            go_round
            case rel => exact ⟨m + 1, by go_num, by have := HL2.out; omega⟩
            case measure => have := HL2.out; simp [intOf]; omega
          · have hqk2 : ¬ (q < k) := hqk
            have hcn : ¬ cc = m := by omega
            go_wp2_with (fail)
            have BA1 := Lib.hid (show Below W7.heap.size W7 ((W7.alloc (.cells #[] 3)).alloc (.cells #[.int .i64 k] 3)).drew from by first | exact ((Below.refl _ _).alloc (Nat.le_refl _) _).drew | exact (((Below.refl _ _).alloc (Nat.le_refl _) _).alloc (by simp) _).drew)
            have RA1 := Lib.hid ((Nums.lit W7).below (show Below (W7.alloc (.cells #[] 3)).heap.size (W7.alloc (.cells #[] 3)) ((W7.alloc (.cells #[] 3)).alloc (.cells #[.int .i64 k] 3)).drew from ((Below.refl _ _).alloc (Nat.le_refl _) _).drew)).own
            have SB1 := Lib.hid (show (((W7.alloc (.cells #[] 3)).alloc (.cells #[.int .i64 k] 3)).drew).cell? ⟨W7.heap.size + 1, 0, none⟩ = some (.int .i64 k) by simp)
            have BA2 := Lib.hid (show Below W7.heap.size W7 ((W7.alloc (.cells #[.int .i64 k] 3)).alloc (.cells #[] 3)).drew from by first | exact ((Below.refl _ _).alloc (Nat.le_refl _) _).drew | exact (((Below.refl _ _).alloc (Nat.le_refl _) _).alloc (by simp) _).drew)
            have hRA2 := (Nums.lit (W7.alloc (.cells #[.int .i64 k] 3))).below (show Below ((W7.alloc (.cells #[.int .i64 k] 3)).alloc (.cells #[] 3)).heap.size ((W7.alloc (.cells #[.int .i64 k] 3)).alloc (.cells #[] 3)) ((W7.alloc (.cells #[.int .i64 k] 3)).alloc (.cells #[] 3)).drew from (Below.refl _ _).drew)
            rw [show (W7.alloc (.cells #[.int .i64 k] 3)).heap.size = W7.heap.size + 1 by simp] at hRA2
            have RA2 := Lib.hid hRA2.own
            clear hRA2
            have SB2 := Lib.hid (show (((W7.alloc (.cells #[.int .i64 k] 3)).alloc (.cells #[] 3)).drew).cell? ⟨W7.heap.size, 0, none⟩ = some (.int .i64 k) by simp)
            have BA3 := Lib.hid (show Below W7.heap.size W7 (W7.alloc (.cells #[] 3)).drew from by first | exact ((Below.refl _ _).alloc (Nat.le_refl _) _).drew | exact (((Below.refl _ _).alloc (Nat.le_refl _) _).alloc (by simp) _).drew)
            have RA3 := Lib.hid ((Nums.lit W7).below (show Below (W7.alloc (.cells #[] 3)).heap.size (W7.alloc (.cells #[] 3)) (W7.alloc (.cells #[] 3)).drew from (Below.refl _ _).drew)).own
            have RC := Lib.hid J7.out.r
            have MCL := Lib.hid (show m ≤ cs.length by have := HCL.out; omega)
            have CLT := Lib.hid (show (cs.take m).length = m by rw [List.length_take]; have := HCL.out; omega)
            have CLD := Lib.hid (show (cs.drop m).length = i - m by rw [List.length_drop]; have := HCL.out; omega)
            have HS7 : Hid (∀ W : World, W7.heap.size ≤ W.heap.size → ∀ j, j < W7.heap.size → j < W.heap.size) := Lib.hid (fun W hW j hj => by omega)
            go_region_law (first
              | (refine step_nums rfl (.tmp 92) (.tmp 95) rfl (fun j => j < (((W7.alloc (.cells #[] 3)).alloc (.cells #[.int .i64 k] 3)).drew).heap.size ∧ (Value.slice (some ⟨W7.heap.size, 0, none⟩) 0 0).ownBlock ≠ some j) (.slice (some ⟨W7.heap.size, 0, none⟩) 0 0) [] (cs.take m) rfl RA1.out (fun j hj => hj.1) (.slice (some ⟨g, 0, none⟩) m cc) rfl (src_take (RC.out.below BA1.out) MCL.out) (by rw [CLT.out]; simp; omega) m (by rw [CLT.out]; simp) (cs.take m) (List.nil_append _) ?_; intro a8 c8 w8 hm8 hc8 hR8 hO8; have R8 := Lib.hid (hR8.sub (S' := fun j => j < W7.heap.size) (fun j hj hlt => ⟨Nat.lt_of_lt_of_le hlt BA1.out.size, fun e => by simp [Value.ownBlock] at e; omega⟩)); have B8 := Lib.hid (BA1.out.trans (hO8.below (B := W7.heap.size) (fun j hj => Nat.le_of_not_lt fun hlt => hj ⟨Nat.lt_of_lt_of_le hlt BA1.out.size, fun e => by simp [Value.ownBlock] at e; omega⟩) BA1.out.size)); have C8 := Lib.hid (hO8.cell (p := ⟨W7.heap.size + 1, 0, none⟩) SB1.out (fun h => h ⟨by first | (simp; done) | (simp; omega), fun e => by simp [Value.ownBlock] at e⟩)); clear hR8 hO8; unfold maxLen at hm8)
              | (refine step_nums rfl (.tmp 92) (.tmp 95) rfl (fun j => j < (((W7.alloc (.cells #[.int .i64 k] 3)).alloc (.cells #[] 3)).drew).heap.size ∧ (Value.slice (some ⟨W7.heap.size + 1, 0, none⟩) 0 0).ownBlock ≠ some j) (.slice (some ⟨W7.heap.size + 1, 0, none⟩) 0 0) [] (cs.take m) rfl RA2.out (fun j hj => hj.1) (.slice (some ⟨g, 0, none⟩) m cc) rfl (src_take (RC.out.below BA2.out) MCL.out) (by rw [CLT.out]; simp; omega) m (by rw [CLT.out]; simp) (cs.take m) (List.nil_append _) ?_; intro a8 c8 w8 hm8 hc8 hR8 hO8; have R8 := Lib.hid (hR8.sub (S' := fun j => j < W7.heap.size) (fun j hj hlt => ⟨Nat.lt_of_lt_of_le hlt BA2.out.size, fun e => by simp [Value.ownBlock] at e; omega⟩)); have B8 := Lib.hid (BA2.out.trans (hO8.below (B := W7.heap.size) (fun j hj => Nat.le_of_not_lt fun hlt => hj ⟨Nat.lt_of_lt_of_le hlt BA2.out.size, fun e => by simp [Value.ownBlock] at e; omega⟩) BA2.out.size)); have C8 := Lib.hid (hO8.cell (p := ⟨W7.heap.size, 0, none⟩) SB2.out (fun h => h ⟨by first | (simp; done) | (simp; omega), fun e => by simp [Value.ownBlock] at e⟩)); clear hR8 hO8; unfold maxLen at hm8)
              | (refine step_nums rfl (.tmp 92) (.tmp 95) rfl (fun j => j < ((W7.alloc (.cells #[] 3)).drew).heap.size ∧ (Value.slice (some ⟨W7.heap.size, 0, none⟩) 0 0).ownBlock ≠ some j) (.slice (some ⟨W7.heap.size, 0, none⟩) 0 0) [] (cs.take m) rfl RA3.out (fun j hj => hj.1) (.slice (some ⟨g, 0, none⟩) m cc) rfl (src_take (RC.out.below BA3.out) MCL.out) (by rw [CLT.out]; simp; omega) m (by rw [CLT.out]; simp) (cs.take m) (List.nil_append _) ?_; intro a8 c8 w8 hm8 hc8 hR8 hO8; have R8 := Lib.hid (hR8.sub (S' := fun j => j < W7.heap.size) (fun j hj hlt => ⟨Nat.lt_of_lt_of_le hlt BA3.out.size, fun e => by simp [Value.ownBlock] at e; omega⟩)); have B8 := Lib.hid (BA3.out.trans (hO8.below (B := W7.heap.size) (fun j hj => Nat.le_of_not_lt fun hlt => hj ⟨Nat.lt_of_lt_of_le hlt BA3.out.size, fun e => by simp [Value.ownBlock] at e; omega⟩) BA3.out.size)); clear hR8 hO8; unfold maxLen at hm8)
              | (refine step_nums rfl (.tmp 96) (.tmp 98) rfl (fun j => j < W7.heap.size) (.slice a8 m c8) (cs.take m) [k] rfl R8.out (HS7.out _ B8.out.size) (.slice (some ⟨W7.heap.size + 1, 0, none⟩) 1 1) rfl (src_cell C8.out) (by rw [CLT.out]; simp; omega) (m + 1) (by rw [CLT.out]; simp) _ rfl ?_; intro a9 c9 w9 hm9 hc9 hR9 hO9; have R9 := Lib.hid hR9; have B9 := Lib.hid (only_lt B8.out hO9); clear hR9 hO9; unfold maxLen at hm9)
              | (refine step_nums rfl (.tmp 96) (.tmp 98) rfl (fun j => j < W7.heap.size) (.slice a8 m c8) (cs.take m) [k] rfl R8.out (HS7.out _ B8.out.size) (.slice (some ⟨W7.heap.size, 0, none⟩) 1 1) rfl (src_cell C8.out) (by rw [CLT.out]; simp; omega) (m + 1) (by rw [CLT.out]; simp) _ rfl ?_; intro a9 c9 w9 hm9 hc9 hR9 hO9; have R9 := Lib.hid hR9; have B9 := Lib.hid (only_lt B8.out hO9); clear hR9 hO9; unfold maxLen at hm9)
              | (refine step_nums rfl (.tmp 96) (.tmp 98) rfl (fun j => j < W7.heap.size) (.slice a8 m c8) (cs.take m) [k] rfl (R8.out.below ((Below.refl _ _).alloc (Nat.le_refl _) _)) (HS7.out _ (Nat.le_trans B8.out.size (by simp))) (.slice (some ⟨w8.heap.size, 0, none⟩) 1 1) rfl (src_one k) (by rw [CLT.out]; simp; omega) (m + 1) (by rw [CLT.out]; simp) _ rfl ?_; intro a9 c9 w9 hm9 hc9 hR9 hO9; have R9 := Lib.hid hR9; have B9 := Lib.hid (only_lt (B8.out.alloc B8.out.size _) hO9); clear hR9 hO9; unfold maxLen at hm9)
              | (refine step_nums rfl (.tmp 99) (.tmp 102) rfl (fun j => j < W7.heap.size) (.slice a9 (m + 1) c9) (cs.take m ++ [k]) (cs.drop m) rfl R9.out (HS7.out _ B9.out.size) (.slice (some ⟨g, m, none⟩) (i - m) (cc - m)) rfl (src_drop (RC.out.below B9.out) MCL.out (by rw [HCL.out])) (by rw [List.length_append, CLT.out, CLD.out]; first | (simp; done) | (simp; omega)) (i + 1) (by rw [List.length_append, CLT.out, CLD.out]; first | (simp; done) | (simp; omega)) _ rfl ?_; intro a10 c10 w10 hm10 hc10 hR10 hO10; have R10 := Lib.hid hR10; have B10 := Lib.hid (only_lt B9.out hO10); clear hR10 hO10; unfold maxLen at hm10))
            all_goals
              go_wp2_with (fail)
              go_roundw
              case rel => exact ⟨i + 1, a10, c10, cs.take m ++ [k] ++ cs.drop m, LB, rfl, by go_num, by have := HLT.out; omega, (by rw [List.length_append, List.length_append, CLT.out, CLD.out]; first | (simp; done) | (simp; omega)), hc10, J7.out.anew B10.out R10.out (fun j hj => Nat.lt_of_lt_of_le hj J7.out.o.size), TM2.out, NM2.out⟩
              case measure => have := HLT.out; simp [intOf]; omega
        · have hmm : m = i := by omega
          have HIM := Lib.hid hmm
          clear hmm
          rcases J7.out.r.row.2 with ⟨e, e0⟩ | ⟨g, cap', cur, e, _⟩
          · simp only [Value.slice.injEq] at e
            obtain ⟨rfl, e1, rfl⟩ := e
            have hi00 : i = 0 := by have := HCL.out; omega
            have hm00 : m = 0 := by have := HIM.out; omega
            clear HIM e0 e1
            subst hi00
            subst hm00
            go_wp2_with (fail)
            have BA1 := Lib.hid (show Below W7.heap.size W7 ((W7.alloc (.cells #[] 3)).alloc (.cells #[.int .i64 k] 3)).drew from by first | exact ((Below.refl _ _).alloc (Nat.le_refl _) _).drew | exact (((Below.refl _ _).alloc (Nat.le_refl _) _).alloc (by simp) _).drew)
            have RA1 := Lib.hid ((Nums.lit W7).below (show Below (W7.alloc (.cells #[] 3)).heap.size (W7.alloc (.cells #[] 3)) ((W7.alloc (.cells #[] 3)).alloc (.cells #[.int .i64 k] 3)).drew from ((Below.refl _ _).alloc (Nat.le_refl _) _).drew)).own
            have SB1 := Lib.hid (show (((W7.alloc (.cells #[] 3)).alloc (.cells #[.int .i64 k] 3)).drew).cell? ⟨W7.heap.size + 1, 0, none⟩ = some (.int .i64 k) by simp)
            have BA2 := Lib.hid (show Below W7.heap.size W7 ((W7.alloc (.cells #[.int .i64 k] 3)).alloc (.cells #[] 3)).drew from by first | exact ((Below.refl _ _).alloc (Nat.le_refl _) _).drew | exact (((Below.refl _ _).alloc (Nat.le_refl _) _).alloc (by simp) _).drew)
            have hRA2 := (Nums.lit (W7.alloc (.cells #[.int .i64 k] 3))).below (show Below ((W7.alloc (.cells #[.int .i64 k] 3)).alloc (.cells #[] 3)).heap.size ((W7.alloc (.cells #[.int .i64 k] 3)).alloc (.cells #[] 3)) ((W7.alloc (.cells #[.int .i64 k] 3)).alloc (.cells #[] 3)).drew from (Below.refl _ _).drew)
            rw [show (W7.alloc (.cells #[.int .i64 k] 3)).heap.size = W7.heap.size + 1 by simp] at hRA2
            have RA2 := Lib.hid hRA2.own
            clear hRA2
            have SB2 := Lib.hid (show (((W7.alloc (.cells #[.int .i64 k] 3)).alloc (.cells #[] 3)).drew).cell? ⟨W7.heap.size, 0, none⟩ = some (.int .i64 k) by simp)
            have BA3 := Lib.hid (show Below W7.heap.size W7 (W7.alloc (.cells #[] 3)).drew from by first | exact ((Below.refl _ _).alloc (Nat.le_refl _) _).drew | exact (((Below.refl _ _).alloc (Nat.le_refl _) _).alloc (by simp) _).drew)
            have RA3 := Lib.hid ((Nums.lit W7).below (show Below (W7.alloc (.cells #[] 3)).heap.size (W7.alloc (.cells #[] 3)) (W7.alloc (.cells #[] 3)).drew from (Below.refl _ _).drew)).own
            have HS7 : Hid (∀ W : World, W7.heap.size ≤ W.heap.size → ∀ j, j < W7.heap.size → j < W.heap.size) := Lib.hid (fun W hW j hj => by omega)
            go_region_law (first
              | (refine step_nums rfl (.tmp 96) (.tmp 98) rfl (fun j => j < W7.heap.size) (.slice (some ⟨W7.heap.size, 0, none⟩) 0 0) [] [k] rfl (RA1.out.sub (S' := fun j => j < W7.heap.size) (fun j hj hlt => ⟨Nat.lt_of_lt_of_le hlt BA1.out.size, fun e => by simp [Value.ownBlock] at e; omega⟩)) (HS7.out _ BA1.out.size) (.slice (some ⟨W7.heap.size + 1, 0, none⟩) 1 1) rfl (src_cell SB1.out) (by simp) 1 (by simp) _ rfl ?_; intro a9 c9 w9 hm9 hc9 hR9 hO9; have R9 := Lib.hid hR9; have B9 := Lib.hid (only_lt BA1.out hO9); clear hR9 hO9; unfold maxLen at hm9)
              | (refine step_nums rfl (.tmp 96) (.tmp 98) rfl (fun j => j < W7.heap.size) (.slice (some ⟨W7.heap.size + 1, 0, none⟩) 0 0) [] [k] rfl (RA2.out.sub (S' := fun j => j < W7.heap.size) (fun j hj hlt => ⟨Nat.lt_of_lt_of_le hlt BA2.out.size, fun e => by simp [Value.ownBlock] at e; omega⟩)) (HS7.out _ BA2.out.size) (.slice (some ⟨W7.heap.size, 0, none⟩) 1 1) rfl (src_cell SB2.out) (by simp) 1 (by simp) _ rfl ?_; intro a9 c9 w9 hm9 hc9 hR9 hO9; have R9 := Lib.hid hR9; have B9 := Lib.hid (only_lt BA2.out hO9); clear hR9 hO9; unfold maxLen at hm9)
              | (refine step_nums rfl (.tmp 96) (.tmp 98) rfl (fun j => j < W7.heap.size) (.slice (some ⟨W7.heap.size, 0, none⟩) 0 0) [] [k] rfl ((RA3.out.sub (S' := fun j => j < W7.heap.size) (fun j hj hlt => ⟨Nat.lt_of_lt_of_le hlt BA3.out.size, fun e => by simp [Value.ownBlock] at e; omega⟩)).below ((Below.refl _ _).alloc (Nat.le_refl _) _)) (HS7.out _ (Nat.le_trans BA3.out.size (by simp))) (.slice (some ⟨((W7.alloc (.cells #[] 3)).drew).heap.size, 0, none⟩) 1 1) (by simp [go_sem]) (src_one k) (by simp) 1 (by simp) _ rfl ?_; intro a9 c9 w9 hm9 hc9 hR9 hO9; have R9 := Lib.hid hR9; have B9 := Lib.hid (only_lt (BA3.out.alloc BA3.out.size _) hO9); clear hR9 hO9; unfold maxLen at hm9)
              | (refine step_nums rfl (.tmp 99) (.tmp 102) rfl (fun j => j < W7.heap.size) (.slice a9 1 c9) ([] ++ [k]) [] rfl R9.out (HS7.out _ B9.out.size) (.slice none 0 0) rfl src_I0 (by simp) 1 (by simp) _ rfl ?_; intro a10 c10 w10 hm10 hc10 hR10 hO10; have R10 := Lib.hid hR10; have B10 := Lib.hid (only_lt B9.out hO10); clear hR10 hO10; unfold maxLen at hm10))
            all_goals
              go_wp2_with (fail)
              go_roundw
              case rel => exact ⟨1, a10, c10, [] ++ [k] ++ [], LB, rfl, by go_num, by have := HLT.out; omega, rfl, hc10, J7.out.anew B10.out R10.out (fun j hj => Nat.lt_of_lt_of_le hj J7.out.o.size), TM2.out, NM2.out⟩
              case measure => have := HLT.out; simp [intOf]; omega
          · simp only [Value.slice.injEq] at e
            obtain ⟨rfl, e1, rfl⟩ := e
            clear e1
            by_cases hcn : cc = m
            · have hci : cc = i := hcn.trans HIM.out
              have hmi2 : m = i := HIM.out
              clear hcn HIM
              subst hci
              subst hmi2
              have hni : ¬ (m < m) := hlt2
              clear hlt2
              go_wp2_with (fail)
              have BA1 := Lib.hid (show Below W7.heap.size W7 ((W7.alloc (.cells #[] 3)).alloc (.cells #[.int .i64 k] 3)).drew from by first | exact ((Below.refl _ _).alloc (Nat.le_refl _) _).drew | exact (((Below.refl _ _).alloc (Nat.le_refl _) _).alloc (by simp) _).drew)
              have RA1 := Lib.hid ((Nums.lit W7).below (show Below (W7.alloc (.cells #[] 3)).heap.size (W7.alloc (.cells #[] 3)) ((W7.alloc (.cells #[] 3)).alloc (.cells #[.int .i64 k] 3)).drew from ((Below.refl _ _).alloc (Nat.le_refl _) _).drew)).own
              have SB1 := Lib.hid (show (((W7.alloc (.cells #[] 3)).alloc (.cells #[.int .i64 k] 3)).drew).cell? ⟨W7.heap.size + 1, 0, none⟩ = some (.int .i64 k) by simp)
              have BA2 := Lib.hid (show Below W7.heap.size W7 ((W7.alloc (.cells #[.int .i64 k] 3)).alloc (.cells #[] 3)).drew from by first | exact ((Below.refl _ _).alloc (Nat.le_refl _) _).drew | exact (((Below.refl _ _).alloc (Nat.le_refl _) _).alloc (by simp) _).drew)
              have hRA2 := (Nums.lit (W7.alloc (.cells #[.int .i64 k] 3))).below (show Below ((W7.alloc (.cells #[.int .i64 k] 3)).alloc (.cells #[] 3)).heap.size ((W7.alloc (.cells #[.int .i64 k] 3)).alloc (.cells #[] 3)) ((W7.alloc (.cells #[.int .i64 k] 3)).alloc (.cells #[] 3)).drew from (Below.refl _ _).drew)
              rw [show (W7.alloc (.cells #[.int .i64 k] 3)).heap.size = W7.heap.size + 1 by simp] at hRA2
              have RA2 := Lib.hid hRA2.own
              clear hRA2
              have SB2 := Lib.hid (show (((W7.alloc (.cells #[.int .i64 k] 3)).alloc (.cells #[] 3)).drew).cell? ⟨W7.heap.size, 0, none⟩ = some (.int .i64 k) by simp)
              have BA3 := Lib.hid (show Below W7.heap.size W7 (W7.alloc (.cells #[] 3)).drew from by first | exact ((Below.refl _ _).alloc (Nat.le_refl _) _).drew | exact (((Below.refl _ _).alloc (Nat.le_refl _) _).alloc (by simp) _).drew)
              have RA3 := Lib.hid ((Nums.lit W7).below (show Below (W7.alloc (.cells #[] 3)).heap.size (W7.alloc (.cells #[] 3)) (W7.alloc (.cells #[] 3)).drew from (Below.refl _ _).drew)).own
              have RC := Lib.hid J7.out.r
              have MCL := Lib.hid (show m ≤ cs.length by have := HCL.out; omega)
              have CLT := Lib.hid (show (cs.take m).length = m by rw [List.length_take]; have := HCL.out; omega)
              have CLD := Lib.hid (show (cs.drop m).length = 0 by rw [List.length_drop]; have := HCL.out; omega)
              have EDN := Lib.hid (show cs.drop m = [] from List.drop_eq_nil_iff.2 (by have := HCL.out; omega))
              have HS7 : Hid (∀ W : World, W7.heap.size ≤ W.heap.size → ∀ j, j < W7.heap.size → j < W.heap.size) := Lib.hid (fun W hW j hj => by omega)
              go_region_law (first
                | (refine step_nums rfl (.tmp 92) (.tmp 95) rfl (fun j => j < (((W7.alloc (.cells #[] 3)).alloc (.cells #[.int .i64 k] 3)).drew).heap.size ∧ (Value.slice (some ⟨W7.heap.size, 0, none⟩) 0 0).ownBlock ≠ some j) (.slice (some ⟨W7.heap.size, 0, none⟩) 0 0) [] (cs.take m) rfl RA1.out (fun j hj => hj.1) (.slice (some ⟨g, 0, none⟩) m m) rfl (src_take (RC.out.below BA1.out) MCL.out) (by rw [CLT.out]; simp; omega) m (by rw [CLT.out]; simp) (cs.take m) (List.nil_append _) ?_; intro a8 c8 w8 hm8 hc8 hR8 hO8; have R8 := Lib.hid (hR8.sub (S' := fun j => j < W7.heap.size) (fun j hj hlt => ⟨Nat.lt_of_lt_of_le hlt BA1.out.size, fun e => by simp [Value.ownBlock] at e; omega⟩)); have B8 := Lib.hid (BA1.out.trans (hO8.below (B := W7.heap.size) (fun j hj => Nat.le_of_not_lt fun hlt => hj ⟨Nat.lt_of_lt_of_le hlt BA1.out.size, fun e => by simp [Value.ownBlock] at e; omega⟩) BA1.out.size)); have C8 := Lib.hid (hO8.cell (p := ⟨W7.heap.size + 1, 0, none⟩) SB1.out (fun h => h ⟨by first | (simp; done) | (simp; omega), fun e => by simp [Value.ownBlock] at e⟩)); clear hR8 hO8; unfold maxLen at hm8)
                | (refine step_nums rfl (.tmp 92) (.tmp 95) rfl (fun j => j < (((W7.alloc (.cells #[.int .i64 k] 3)).alloc (.cells #[] 3)).drew).heap.size ∧ (Value.slice (some ⟨W7.heap.size + 1, 0, none⟩) 0 0).ownBlock ≠ some j) (.slice (some ⟨W7.heap.size + 1, 0, none⟩) 0 0) [] (cs.take m) rfl RA2.out (fun j hj => hj.1) (.slice (some ⟨g, 0, none⟩) m m) rfl (src_take (RC.out.below BA2.out) MCL.out) (by rw [CLT.out]; simp; omega) m (by rw [CLT.out]; simp) (cs.take m) (List.nil_append _) ?_; intro a8 c8 w8 hm8 hc8 hR8 hO8; have R8 := Lib.hid (hR8.sub (S' := fun j => j < W7.heap.size) (fun j hj hlt => ⟨Nat.lt_of_lt_of_le hlt BA2.out.size, fun e => by simp [Value.ownBlock] at e; omega⟩)); have B8 := Lib.hid (BA2.out.trans (hO8.below (B := W7.heap.size) (fun j hj => Nat.le_of_not_lt fun hlt => hj ⟨Nat.lt_of_lt_of_le hlt BA2.out.size, fun e => by simp [Value.ownBlock] at e; omega⟩) BA2.out.size)); have C8 := Lib.hid (hO8.cell (p := ⟨W7.heap.size, 0, none⟩) SB2.out (fun h => h ⟨by first | (simp; done) | (simp; omega), fun e => by simp [Value.ownBlock] at e⟩)); clear hR8 hO8; unfold maxLen at hm8)
                | (refine step_nums rfl (.tmp 92) (.tmp 95) rfl (fun j => j < ((W7.alloc (.cells #[] 3)).drew).heap.size ∧ (Value.slice (some ⟨W7.heap.size, 0, none⟩) 0 0).ownBlock ≠ some j) (.slice (some ⟨W7.heap.size, 0, none⟩) 0 0) [] (cs.take m) rfl RA3.out (fun j hj => hj.1) (.slice (some ⟨g, 0, none⟩) m m) rfl (src_take (RC.out.below BA3.out) MCL.out) (by rw [CLT.out]; simp; omega) m (by rw [CLT.out]; simp) (cs.take m) (List.nil_append _) ?_; intro a8 c8 w8 hm8 hc8 hR8 hO8; have R8 := Lib.hid (hR8.sub (S' := fun j => j < W7.heap.size) (fun j hj hlt => ⟨Nat.lt_of_lt_of_le hlt BA3.out.size, fun e => by simp [Value.ownBlock] at e; omega⟩)); have B8 := Lib.hid (BA3.out.trans (hO8.below (B := W7.heap.size) (fun j hj => Nat.le_of_not_lt fun hlt => hj ⟨Nat.lt_of_lt_of_le hlt BA3.out.size, fun e => by simp [Value.ownBlock] at e; omega⟩) BA3.out.size)); clear hR8 hO8; unfold maxLen at hm8)
                | (refine step_nums rfl (.tmp 96) (.tmp 98) rfl (fun j => j < W7.heap.size) (.slice a8 m c8) (cs.take m) [k] rfl R8.out (HS7.out _ B8.out.size) (.slice (some ⟨W7.heap.size + 1, 0, none⟩) 1 1) rfl (src_cell C8.out) (by rw [CLT.out]; simp; omega) (m + 1) (by rw [CLT.out]; simp) _ rfl ?_; intro a9 c9 w9 hm9 hc9 hR9 hO9; have R9 := Lib.hid hR9; have B9 := Lib.hid (only_lt B8.out hO9); clear hR9 hO9; unfold maxLen at hm9)
                | (refine step_nums rfl (.tmp 96) (.tmp 98) rfl (fun j => j < W7.heap.size) (.slice a8 m c8) (cs.take m) [k] rfl R8.out (HS7.out _ B8.out.size) (.slice (some ⟨W7.heap.size, 0, none⟩) 1 1) rfl (src_cell C8.out) (by rw [CLT.out]; simp; omega) (m + 1) (by rw [CLT.out]; simp) _ rfl ?_; intro a9 c9 w9 hm9 hc9 hR9 hO9; have R9 := Lib.hid hR9; have B9 := Lib.hid (only_lt B8.out hO9); clear hR9 hO9; unfold maxLen at hm9)
                | (refine step_nums rfl (.tmp 96) (.tmp 98) rfl (fun j => j < W7.heap.size) (.slice a8 m c8) (cs.take m) [k] rfl (R8.out.below ((Below.refl _ _).alloc (Nat.le_refl _) _)) (HS7.out _ (Nat.le_trans B8.out.size (by simp))) (.slice (some ⟨w8.heap.size, 0, none⟩) 1 1) rfl (src_one k) (by rw [CLT.out]; simp; omega) (m + 1) (by rw [CLT.out]; simp) _ rfl ?_; intro a9 c9 w9 hm9 hc9 hR9 hO9; have R9 := Lib.hid hR9; have B9 := Lib.hid (only_lt (B8.out.alloc B8.out.size _) hO9); clear hR9 hO9; unfold maxLen at hm9)
                | (refine step_nums rfl (.tmp 99) (.tmp 102) rfl (fun j => j < W7.heap.size) (.slice a9 (m + 1) c9) (cs.take m ++ [k]) (cs.drop m) rfl R9.out (HS7.out _ B9.out.size) (.slice (some ⟨g, 0, none⟩) 0 0) rfl (by rw [EDN.out]; exact src_none) (by rw [List.length_append, CLT.out, CLD.out]; first | (simp; done) | (simp; omega)) (m + 1) (by rw [List.length_append, CLT.out, CLD.out]; first | (simp; done) | (simp; omega)) _ rfl ?_; intro a10 c10 w10 hm10 hc10 hR10 hO10; have R10 := Lib.hid hR10; have B10 := Lib.hid (only_lt B9.out hO10); clear hR10 hO10; unfold maxLen at hm10))
              all_goals
                go_wp2_with (fail)
                go_roundw
                case rel => exact ⟨m + 1, a10, c10, cs.take m ++ [k] ++ cs.drop m, LB, rfl, by go_num, by have := HLT.out; omega, (by rw [List.length_append, List.length_append, CLT.out, CLD.out]; first | (simp; done) | (simp; omega)), hc10, J7.out.anew B10.out R10.out (fun j hj => Nat.lt_of_lt_of_le hj J7.out.o.size), TM2.out, NM2.out⟩
                case measure => have := HLT.out; simp [intOf]; omega
            · have hni : ¬ (m < i) := hlt2
              go_wp2_with (fail)
              have BA1 := Lib.hid (show Below W7.heap.size W7 ((W7.alloc (.cells #[] 3)).alloc (.cells #[.int .i64 k] 3)).drew from by first | exact ((Below.refl _ _).alloc (Nat.le_refl _) _).drew | exact (((Below.refl _ _).alloc (Nat.le_refl _) _).alloc (by simp) _).drew)
              have RA1 := Lib.hid ((Nums.lit W7).below (show Below (W7.alloc (.cells #[] 3)).heap.size (W7.alloc (.cells #[] 3)) ((W7.alloc (.cells #[] 3)).alloc (.cells #[.int .i64 k] 3)).drew from ((Below.refl _ _).alloc (Nat.le_refl _) _).drew)).own
              have SB1 := Lib.hid (show (((W7.alloc (.cells #[] 3)).alloc (.cells #[.int .i64 k] 3)).drew).cell? ⟨W7.heap.size + 1, 0, none⟩ = some (.int .i64 k) by simp)
              have BA2 := Lib.hid (show Below W7.heap.size W7 ((W7.alloc (.cells #[.int .i64 k] 3)).alloc (.cells #[] 3)).drew from by first | exact ((Below.refl _ _).alloc (Nat.le_refl _) _).drew | exact (((Below.refl _ _).alloc (Nat.le_refl _) _).alloc (by simp) _).drew)
              have hRA2 := (Nums.lit (W7.alloc (.cells #[.int .i64 k] 3))).below (show Below ((W7.alloc (.cells #[.int .i64 k] 3)).alloc (.cells #[] 3)).heap.size ((W7.alloc (.cells #[.int .i64 k] 3)).alloc (.cells #[] 3)) ((W7.alloc (.cells #[.int .i64 k] 3)).alloc (.cells #[] 3)).drew from (Below.refl _ _).drew)
              rw [show (W7.alloc (.cells #[.int .i64 k] 3)).heap.size = W7.heap.size + 1 by simp] at hRA2
              have RA2 := Lib.hid hRA2.own
              clear hRA2
              have SB2 := Lib.hid (show (((W7.alloc (.cells #[.int .i64 k] 3)).alloc (.cells #[] 3)).drew).cell? ⟨W7.heap.size, 0, none⟩ = some (.int .i64 k) by simp)
              have BA3 := Lib.hid (show Below W7.heap.size W7 (W7.alloc (.cells #[] 3)).drew from by first | exact ((Below.refl _ _).alloc (Nat.le_refl _) _).drew | exact (((Below.refl _ _).alloc (Nat.le_refl _) _).alloc (by simp) _).drew)
              have RA3 := Lib.hid ((Nums.lit W7).below (show Below (W7.alloc (.cells #[] 3)).heap.size (W7.alloc (.cells #[] 3)) (W7.alloc (.cells #[] 3)).drew from (Below.refl _ _).drew)).own
              have RC := Lib.hid J7.out.r
              have MCL := Lib.hid (show m ≤ cs.length by have := HCL.out; omega)
              have CLT := Lib.hid (show (cs.take m).length = m by rw [List.length_take]; have := HCL.out; omega)
              have CLD := Lib.hid (show (cs.drop m).length = i - m by rw [List.length_drop]; have := HCL.out; omega)
              have HS7 : Hid (∀ W : World, W7.heap.size ≤ W.heap.size → ∀ j, j < W7.heap.size → j < W.heap.size) := Lib.hid (fun W hW j hj => by omega)
              go_region_law (first
                | (refine step_nums rfl (.tmp 92) (.tmp 95) rfl (fun j => j < (((W7.alloc (.cells #[] 3)).alloc (.cells #[.int .i64 k] 3)).drew).heap.size ∧ (Value.slice (some ⟨W7.heap.size, 0, none⟩) 0 0).ownBlock ≠ some j) (.slice (some ⟨W7.heap.size, 0, none⟩) 0 0) [] (cs.take m) rfl RA1.out (fun j hj => hj.1) (.slice (some ⟨g, 0, none⟩) m cc) rfl (src_take (RC.out.below BA1.out) MCL.out) (by rw [CLT.out]; simp; omega) m (by rw [CLT.out]; simp) (cs.take m) (List.nil_append _) ?_; intro a8 c8 w8 hm8 hc8 hR8 hO8; have R8 := Lib.hid (hR8.sub (S' := fun j => j < W7.heap.size) (fun j hj hlt => ⟨Nat.lt_of_lt_of_le hlt BA1.out.size, fun e => by simp [Value.ownBlock] at e; omega⟩)); have B8 := Lib.hid (BA1.out.trans (hO8.below (B := W7.heap.size) (fun j hj => Nat.le_of_not_lt fun hlt => hj ⟨Nat.lt_of_lt_of_le hlt BA1.out.size, fun e => by simp [Value.ownBlock] at e; omega⟩) BA1.out.size)); have C8 := Lib.hid (hO8.cell (p := ⟨W7.heap.size + 1, 0, none⟩) SB1.out (fun h => h ⟨by first | (simp; done) | (simp; omega), fun e => by simp [Value.ownBlock] at e⟩)); clear hR8 hO8; unfold maxLen at hm8)
                | (refine step_nums rfl (.tmp 92) (.tmp 95) rfl (fun j => j < (((W7.alloc (.cells #[.int .i64 k] 3)).alloc (.cells #[] 3)).drew).heap.size ∧ (Value.slice (some ⟨W7.heap.size + 1, 0, none⟩) 0 0).ownBlock ≠ some j) (.slice (some ⟨W7.heap.size + 1, 0, none⟩) 0 0) [] (cs.take m) rfl RA2.out (fun j hj => hj.1) (.slice (some ⟨g, 0, none⟩) m cc) rfl (src_take (RC.out.below BA2.out) MCL.out) (by rw [CLT.out]; simp; omega) m (by rw [CLT.out]; simp) (cs.take m) (List.nil_append _) ?_; intro a8 c8 w8 hm8 hc8 hR8 hO8; have R8 := Lib.hid (hR8.sub (S' := fun j => j < W7.heap.size) (fun j hj hlt => ⟨Nat.lt_of_lt_of_le hlt BA2.out.size, fun e => by simp [Value.ownBlock] at e; omega⟩)); have B8 := Lib.hid (BA2.out.trans (hO8.below (B := W7.heap.size) (fun j hj => Nat.le_of_not_lt fun hlt => hj ⟨Nat.lt_of_lt_of_le hlt BA2.out.size, fun e => by simp [Value.ownBlock] at e; omega⟩) BA2.out.size)); have C8 := Lib.hid (hO8.cell (p := ⟨W7.heap.size, 0, none⟩) SB2.out (fun h => h ⟨by first | (simp; done) | (simp; omega), fun e => by simp [Value.ownBlock] at e⟩)); clear hR8 hO8; unfold maxLen at hm8)
                | (refine step_nums rfl (.tmp 92) (.tmp 95) rfl (fun j => j < ((W7.alloc (.cells #[] 3)).drew).heap.size ∧ (Value.slice (some ⟨W7.heap.size, 0, none⟩) 0 0).ownBlock ≠ some j) (.slice (some ⟨W7.heap.size, 0, none⟩) 0 0) [] (cs.take m) rfl RA3.out (fun j hj => hj.1) (.slice (some ⟨g, 0, none⟩) m cc) rfl (src_take (RC.out.below BA3.out) MCL.out) (by rw [CLT.out]; simp; omega) m (by rw [CLT.out]; simp) (cs.take m) (List.nil_append _) ?_; intro a8 c8 w8 hm8 hc8 hR8 hO8; have R8 := Lib.hid (hR8.sub (S' := fun j => j < W7.heap.size) (fun j hj hlt => ⟨Nat.lt_of_lt_of_le hlt BA3.out.size, fun e => by simp [Value.ownBlock] at e; omega⟩)); have B8 := Lib.hid (BA3.out.trans (hO8.below (B := W7.heap.size) (fun j hj => Nat.le_of_not_lt fun hlt => hj ⟨Nat.lt_of_lt_of_le hlt BA3.out.size, fun e => by simp [Value.ownBlock] at e; omega⟩) BA3.out.size)); clear hR8 hO8; unfold maxLen at hm8)
                | (refine step_nums rfl (.tmp 96) (.tmp 98) rfl (fun j => j < W7.heap.size) (.slice a8 m c8) (cs.take m) [k] rfl R8.out (HS7.out _ B8.out.size) (.slice (some ⟨W7.heap.size + 1, 0, none⟩) 1 1) rfl (src_cell C8.out) (by rw [CLT.out]; simp; omega) (m + 1) (by rw [CLT.out]; simp) _ rfl ?_; intro a9 c9 w9 hm9 hc9 hR9 hO9; have R9 := Lib.hid hR9; have B9 := Lib.hid (only_lt B8.out hO9); clear hR9 hO9; unfold maxLen at hm9)
                | (refine step_nums rfl (.tmp 96) (.tmp 98) rfl (fun j => j < W7.heap.size) (.slice a8 m c8) (cs.take m) [k] rfl R8.out (HS7.out _ B8.out.size) (.slice (some ⟨W7.heap.size, 0, none⟩) 1 1) rfl (src_cell C8.out) (by rw [CLT.out]; simp; omega) (m + 1) (by rw [CLT.out]; simp) _ rfl ?_; intro a9 c9 w9 hm9 hc9 hR9 hO9; have R9 := Lib.hid hR9; have B9 := Lib.hid (only_lt B8.out hO9); clear hR9 hO9; unfold maxLen at hm9)
                | (refine step_nums rfl (.tmp 96) (.tmp 98) rfl (fun j => j < W7.heap.size) (.slice a8 m c8) (cs.take m) [k] rfl (R8.out.below ((Below.refl _ _).alloc (Nat.le_refl _) _)) (HS7.out _ (Nat.le_trans B8.out.size (by simp))) (.slice (some ⟨w8.heap.size, 0, none⟩) 1 1) rfl (src_one k) (by rw [CLT.out]; simp; omega) (m + 1) (by rw [CLT.out]; simp) _ rfl ?_; intro a9 c9 w9 hm9 hc9 hR9 hO9; have R9 := Lib.hid hR9; have B9 := Lib.hid (only_lt (B8.out.alloc B8.out.size _) hO9); clear hR9 hO9; unfold maxLen at hm9)
                | (refine step_nums rfl (.tmp 99) (.tmp 102) rfl (fun j => j < W7.heap.size) (.slice a9 (m + 1) c9) (cs.take m ++ [k]) (cs.drop m) rfl R9.out (HS7.out _ B9.out.size) (.slice (some ⟨g, m, none⟩) (i - m) (cc - m)) rfl (src_drop (RC.out.below B9.out) MCL.out (by rw [HCL.out])) (by rw [List.length_append, CLT.out, CLD.out]; first | (simp; done) | (simp; omega)) (i + 1) (by rw [List.length_append, CLT.out, CLD.out]; first | (simp; done) | (simp; omega)) _ rfl ?_; intro a10 c10 w10 hm10 hc10 hR10 hO10; have R10 := Lib.hid hR10; have B10 := Lib.hid (only_lt B9.out hO10); clear hR10 hO10; unfold maxLen at hm10))
              all_goals
                go_wp2_with (fail)
                go_roundw
                case rel => exact ⟨i + 1, a10, c10, cs.take m ++ [k] ++ cs.drop m, LB, rfl, by go_num, by have := HLT.out; omega, (by rw [List.length_append, List.length_append, CLT.out, CLD.out]; first | (simp; done) | (simp; omega)), hc10, J7.out.anew B10.out R10.out (fun j hj => Nat.lt_of_lt_of_le hj J7.out.o.size), TM2.out, NM2.out⟩
                case measure => have := HLT.out; simp [intOf]; omega
    · have hni2 : ¬ (i < z1.length) := hlt
      have NI := Lib.hid (show i ≤ 6 by omega)
      have hic2 : (i : Int) ≤ (cc : Int) := by omega
      have J9 := Lib.hid (show JS W2 (fun k => (Value.slice ac i cc).ownBlock = some k) (fun j => j < wr.heap.size) p wr LL (.slice none 0 0) [] from ⟨J0.out.a.mono (fun k hk _ => ⟨hk.1, hk.2.2, by simp [Value.ownBlock]⟩), Nums.nil _ _, J0.out.o⟩)
      have RC := Lib.hid J0.out.r.self
      have RB := Lib.hid (fun k (h : (Value.slice ac i cc).ownBlock = some k) => (J0.out.r.row.lt k h).2)
      have OW := Lib.hid J0.out.o.size
      have NL3 := Lib.hid (show LL.length ≤ 520 by have := NL.out; have := NI.out; omega)
      clear J0 NL hlt
      go_wp2_with (fail)
      go_loopw [18, 19, 108] (fun pv rv iv wx => ∃ (n : Nat) (ap : Option Addr) (cq : Nat) (ts : List Int) (ls : List (List Pr)) (rest : Int) (m : List Pr) (LX : List It), pv = .slice ap n cq ∧ rv = .int .i64 rest ∧ iv = .int .i64 n ∧ n ≤ i ∧ ts.length = n ∧ n ≤ cq ∧ JS W2 (fun k => (Value.slice ac i cc).ownBlock = some k) (fun j => j < wr.heap.size) p wx LX (.slice ap n cq) ts ∧ Nums wx (fun k => (Value.slice ac i cc).ownBlock ≠ some k) (.slice ac i cc) cs ∧ Forest LX ts ls ∧ Tree LX rest m ∧ ls.flatten ++ m = l ∧ LX.length ≤ 520 + n * 40 ∧ wr.heap.size ≤ wx.heap.size) (fun _ _ iv _ => i - (intOf iv).toNat)
      case atStart => exact ⟨0, none, 0, [], [], t, l, LL, rfl, rfl, rfl, Nat.zero_le _, rfl, Nat.zero_le _, J9.out, RC.out, Forest.nil _, T0.out, rfl, by have := NL3.out; omega, Nat.le_refl _⟩
      case round =>
        clear J9 RC T0 NL3
        obtain ⟨n, ap, cq, ts, ls, rest, m, LX, rfl, rfl, rfl, hn, htl, hncq, hJ, hRC, hF, hT, hlm, hLX, hwx⟩ := hrel
        have J0 := Lib.hid hJ
        have RC := Lib.hid hRC
        have HF := Lib.hid hF
        have T0 := Lib.hid hT
        have HLM := Lib.hid hlm
        have HTL := Lib.hid htl
        have NL := Lib.hid hLX
        have HWX := Lib.hid hwx
        have hcqm : cq ≤ 9223372036854775807 := by
          obtain ⟨_, _, e, _, h⟩ := hJ.r.form
          simp only [Value.slice.injEq] at e
          unfold maxLen at h
          omega
        have SM := Lib.hid (show Srt m by have h := HS.out; rw [← hlm] at h; exact h.two.2.1)
        have LM := Lib.hid (show m.length ≤ l.length by rw [← hlm, List.length_append]; omega)
        have hni6 := NI.out
        clear hJ hRC hF hT hlm htl hLX hwx
        by_cases hlt : n < i
        · obtain ⟨k, hk⟩ : ∃ k, cs[n]? = some k := ⟨_, List.getElem?_eq_getElem (by have := HCL.out; omega)⟩
          obtain ⟨g, rfl, _, dk⟩ := RC.out.at hk
          have HLT := Lib.hid hlt
          have hlI : (n : Int) < (i : Int) := by omega
          have hn0 : (0 : Int) ≤ (n : Int) := by omega
          have hh1 := hi_le _ m (Nat.le_refl _)
          have HM := Lib.hid hh1
          clear hk hlt hh1
          go_wp2_with (fail)
          refine (part_okA J0.out.a T0.out SM.out (by have := LM.out; omega) (by have := NL.out; have := HM.out; have := LM.out; omega) k).mono ?_
          rintro e W5 ⟨x, y, M, rfl, hg, hM, hX, hY⟩
          have J5 := Lib.hid (J0.out.grew hg (fun k h => Nat.lt_of_lt_of_le (RB.out k h) HWX.out))
          have RC5 := Lib.hid (J0.out.nums hg.2 RC.out (fun k h => h))
          have TX := Lib.hid hX
          have TY := Lib.hid hY
          have HF5 := Lib.hid (HF.out.app M)
          have NM := Lib.hid (show (LX ++ M).length ≤ 520 + (n + 1) * 40 by rw [List.length_append]; have := NL.out; have := HM.out; have := LM.out; omega)
          have HW5 := Lib.hid (Nat.le_trans HWX.out hg.2.size)
          clear hg hM hX hY J0 RC T0 HF NL HM dk
          generalize LX ++ M = LA at J5 TX TY HF5 NM
          have R5 := Lib.hid (J5.out.r.own.below (show Below W5.heap.size W5 (W5.alloc (.cells #[.int .i64 x] 3)) from (Below.refl _ _).alloc (Nat.le_refl _) _))
          have OW5 := Lib.hid (fun k (h : (Value.slice (some ⟨g, 0, none⟩) i cc).ownBlock = some k) => (RB.out k h))
          go_wp2_with (at_builtin; refine wpList_nums rfl (.tmp 122) (.tmp 124) rfl (fun j => j < W5.heap.size ∧ (Value.slice ap n cq).ownBlock ≠ some j) (.slice ap n cq) ts [x] rfl R5.out (fun j hj => Nat.lt_of_lt_of_le hj.1 (by simp)) (.slice (some ⟨W5.heap.size, 0, none⟩) 1 1) rfl (src_one x) (by rw [HTL.out]; simp; omega) (n + 1) (by rw [HTL.out]; simp) _ rfl ?_; intro a6 c6 w6 hm6 hc6 hR6 hO6; have R6 := Lib.hid hR6; have O6 := Lib.hid (((Only.ofBelow (show Below W5.heap.size W5 (W5.alloc (.cells #[.int .i64 x] 3)) from (Below.refl _ _).alloc (Nat.le_refl _) _) : Only (fun k => ¬ (k < W5.heap.size ∧ (Value.slice ap n cq).ownBlock ≠ some k)) W5 (W5.alloc (.cells #[.int .i64 x] 3)))).trans hO6 (fun j hj _ => hj)); clear hR6 hO6; unfold maxLen at hm6)
          go_roundw
          case rel =>
            have J6 := J5.out.more R6.out O6.out (fun j hj => Nat.lt_of_lt_of_le hj HW5.out) (fun j hj => Nat.lt_of_lt_of_le hj OW.out)
            have RC6 := RC5.out.only O6.out (fun j hj e => hj ⟨Nat.lt_of_lt_of_le (OW5.out j e) HW5.out, fun e2 => J5.out.r.av j e2 (OW5.out j e)⟩)
            exact ⟨n + 1, a6, c6, ts ++ [x], ls ++ [loL m k], y, geL m k, LA, rfl, rfl, by go_num, by have := HLT.out; omega, by rw [List.length_append, HTL.out]; rfl, hc6, J6, RC6, HF5.out.snoc TX.out, TY.out, by rw [List.flatten_append, List.append_assoc, ← HLM.out]; simp [lo_ge SM.out], NM.out, Nat.le_trans HW5.out O6.out.size⟩
          case measure => have := HLT.out; simp [intOf]; omega
        · have hni3 : ¬ (n < i) := hlt
          have CF := Lib.hid (show (ls ++ [m]).flatten = l by rw [List.flatten_append]; simpa using HLM.out)
          have CC := Lib.hid (show cost 0 (ls ++ [m]) ≤ 280 by
            have h1 := cost_le (ls ++ [m]) 0
            rw [CF.out, List.length_append, Nat.zero_add] at h1
            have h2 := HF.out.1
            have h3 := HTL.out
            have h4 : (ls.length + [m].length) * l.length ≤ 7 * 40 := Nat.mul_le_mul (by simp; omega) (by omega)
            omega)
          have R5 := Lib.hid (J0.out.r.own.below (show Below wr.heap.size wr (wr.alloc (.cells #[.int .i64 rest] 3)) from (Below.refl _ _).alloc (Nat.le_refl _) _))
          clear hlt
          go_wp2_with (at_builtin; refine wpList_nums rfl (.tmp 130) (.tmp 132) rfl (fun j => j < wr.heap.size ∧ (Value.slice ap n cq).ownBlock ≠ some j) (.slice ap n cq) ts [rest] rfl R5.out (fun j hj => Nat.lt_of_lt_of_le hj.1 (by simp)) (.slice (some ⟨wr.heap.size, 0, none⟩) 1 1) rfl (src_one rest) (by rw [HTL.out]; simp; omega) (n + 1) (by rw [HTL.out]; simp) _ rfl ?_; intro a6 c6 w6 hm6 hc6 hR6 hO6; have HC6 := Lib.hid hc6; have R6 := Lib.hid hR6; have O6 := Lib.hid (((Only.ofBelow (show Below wr.heap.size wr (wr.alloc (.cells #[.int .i64 rest] 3)) from (Below.refl _ _).alloc (Nat.le_refl _) _) : Only (fun k => ¬ (k < wr.heap.size ∧ (Value.slice ap n cq).ownBlock ≠ some k)) wr (wr.alloc (.cells #[.int .i64 rest] 3)))).trans hO6 (fun j hj _ => hj)); clear hR6 hO6 hc6; unfold maxLen at hm6)
          have J6 := Lib.hid (J0.out.more R6.out O6.out (fun j hj => Nat.lt_of_lt_of_le hj HWX.out) (fun j hj => Nat.lt_of_lt_of_le hj OW.out))
          have HK6 := Lib.hid (fun k (h : (Value.slice ac i cc).ownBlock = some k) => Nat.lt_of_lt_of_le (RB.out k h) (Nat.le_trans HWX.out O6.out.size))
          refine (all_ok J6.out.a J6.out.r.self (fun k _ h => h.2.2) (by rw [List.length_append, HTL.out]; rfl) HC6.out (by omega) (HF.out.snoc T0.out) (by rw [CF.out]; exact HS.out) (by rw [CF.out]; omega) (by have := NL.out; have := CC.out; omega)).mono ?_
          rintro e W7 ⟨u, M, rfl, hg, hM, hU⟩
          rw [CF.out] at hU
          have J7 := Lib.hid (J6.out.grew hg HK6.out)
          have HK7 := Lib.hid (fun k (h : (Value.slice ac i cc).ownBlock = some k) => Nat.lt_of_lt_of_le (HK6.out k h) hg.2.size)
          have TU := Lib.hid hU
          have NM := Lib.hid (show (LX ++ M).length ≤ 2000 by rw [List.length_append]; have := NL.out; have := CC.out; omega)
          clear hg hM hU J6 J0 RC HF T0 NL R6 O6 R5
          generalize LX ++ M = LA at J7 TU NM
          go_wp2_with (fail)
          refine (all_ok (ts := []) (ls := []) J7.out.a (Nums.nil W7 (fun _ => True)) (fun k _ h => trivial) rfl (Nat.le_refl _) (by decide) (Forest.nil _) Srt.nil (by simp) (by have := NM.out; simp [cost]; omega)).mono ?_
          rintro e W8 ⟨nx, M2, rfl, hg2, hM2, hN⟩
          obtain rfl : nx = 0 := hN.nil_zero
          have J8 := Lib.hid (J7.out.grew hg2 HK7.out)
          have TU2 := Lib.hid (TU.out.app M2)
          clear hg2 hM2 hN J7 TU NM
          generalize LA ++ M2 = LB at J8 TU2
          go_wp2_with (fail)
          refine (says_is TU2.out (HP.out.below J8.out.o) J8.out.a (by omega) rfl).mono ?_
          rintro e W9 ⟨rfl, hb9⟩
          have J9 := Lib.hid (J8.out.below hb9)
          clear hb9 J8
          go_wp2_with (go_at_call 25; ((with_reducible refine (jawake_any W9).mono ?_); rintro e W14 ⟨rfl, hb14⟩; have J14 := Lib.hid (J9.out.below hb14); clear hb14 J9))
          go_ret
          exact ⟨rfl, HBW.out.trans (J14.out.o.mono HBW.out.size)⟩

set_option maxRecDepth 100000 in
theorem lifted (os : Os) (started : os.Started) (H : Type) (enc : TypeId × Value → H) :
    ReturnsInHanded {} Try.checked os 7 .any (Rows.joinPartsSpec.pre6 enc Try.prog Try.f7 Rows.joinPartsRow.domain false) (Rows.joinPartsSpec.post enc Try.prog Try.f7 false true false false) := by
  refine returnsInHanded_of_change (C := Try.checked) own started (by kernel_rfl) Try.func7
    (ChangeSpec.witness6 (enc := enc) (C := Try.checked) false ⟨#[], #[.slice none 0 0, .slice none 0 0], []⟩ 8 (by kernel_rfl) (by kernel_rfl) (by kernel_rfl) (by kernel_rfl)) ?_
  intro W base args ds gs before hval0 hW hcnd _
  have hval : ∀ (j : Nat) t v, Try.f7.params[j]? = some t → args[j]? = some v → Value.okWide Try.prog W .any base t v := hval0
  have hW' := hW
  obtain ⟨p, q, hA0, hV, rfl, hfz, hnd⟩ := hW
  have hA : DataW.TrodAll enc Try.prog W 0 (fun _ => true) true Try.f7.params.toList args.toList ds p := hA0
  rw [Try.params7] at hA hval
  obtain ⟨v0, vs0, d0, ds0, p0, q0, hargs, rfl, rfl, h0, r0⟩ := trodAll_cons hA
  obtain ⟨v1, vs1, d1, ds1, p1, q1, rfl, rfl, rfl, h1, r1⟩ := trodAll_cons r0
  obtain ⟨rfl, rfl, rfl⟩ := trodAll_nil r1
  obtain rfl : args = #[v0, v1] := by cases args; simp_all
  obtain ⟨rfl, rfl⟩ := trodVars_none hV
  have k0 := h0
  have lt0 : ∀ x ∈ p0, x.block < W.heap.size := by obtain ⟨m, hm⟩ := k0; exact DataW.trod_lt m _ _ _ hm
  obtain ⟨b0, l0, c0, rfl⟩ := okWide_slice Try.underlying22 (hval 0 22 v0 rfl rfl)
  obtain ⟨a0, cap0, z0, e0, w0, g0⟩ := open_pairsw (enc := enc) (w := W) (v := .slice b0 l0 c0) (fuel := h0.choose) (by simpa [Value.cells] using h0.choose_spec)
  rw [e0] at hval k0 h0 hW' hval0 hA0
  have k1 := h1
  have lt1 : ∀ x ∈ p1, x.block < W.heap.size := by obtain ⟨m, hm⟩ := k1; exact DataW.trod_lt m _ _ _ hm
  obtain ⟨b1, l1, c1, rfl⟩ := okWide_slice Try.underlying42 (hval 1 42 v1 rfl rfl)
  obtain ⟨a1, cap1, z1, e1, w1⟩ := open_vals (enc := enc) (w := W) (v := .slice b1 l1 c1) (fuel := h1.choose) (by simpa [Value.cells] using h1.choose_spec)
  rw [e1] at hval k1 h1 hW' hval0 hA0
  clear hA0 hval0
  rw [e0]; rw [e1]; refine (walk a0 cap0 z0 a1 cap1 z1 W w0 g0 w1).mono fun e W' ⟨he, bel⟩ => ?_
  subst he
  exact ⟨_, rfl, _, _, _, [], _, [], hW', trodAll_mk1 (shut_bool Try.underlying4 _), (trodAll_cons_mk (Below.trod laidOut (by kernel_rfl) (of_decide_eq_true (by kernel_rfl)) k0 bel lt0) (trodAll_cons_mk (Below.trod laidOut (by kernel_rfl) (of_decide_eq_true (by kernel_rfl)) k1 bel lt1) trodAll_mk0)), rfl, bel.frame _, fun h => by cases h⟩

theorem over : Rows.joinPartsRow.holds Try.pinned (OpenSpec.ofChange Rows.joinPartsSpec) :=
  OpenClaim.holds_of_wide 7 Try.f7 rfl rfl rfl rfl rfl rfl rfl ⟨rfl, rfl, rfl, rfl, rfl⟩ rfl rfl rfl rfl rfl (by kernel_rfl) Try.func7 (by kernel_rfl)
    (of_decide_eq_true (by kernel_rfl)) (by unfold Func.isWrapper; first | (rw [if_pos (by decide +kernel)]; kernel_rfl) | (rw [if_neg (by decide +kernel)]; exact ⟨rfl, rfl⟩))
    (fun os started H enc _ => lifted os started H enc)

theorem joinPartsHolds : Rows.JoinPartsSaid := over
#print axioms joinPartsHolds
end Go.Proofs.Ytellkcppgfghhaa.joinParts
