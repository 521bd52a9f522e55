/- LeafGets (P13.3): over up to 100 pairs whose keys rise and up to 100 operations, one after the other: each key has what its last update made of it, each update and OGet tells what was there, keys rise always, and an operation that there is not is refused with ErrArg and leaves the pairs. No condition. -/
import Derived.Test.YtipcjkfecppanaaRows
import Derived.Test.YtipcjkfecppanaaLrD
import Derived.Test.YtipcjkfecppanaaLfW
import Derived.Test.YtipcjkfecppanaaLfZ
import Derived.Test.YtipcjkfecppanaaLfK
import Derived.LoopTactic
import Derived.WalkKit
import Derived.ProofKit
import Derived.OpenShut
import Derived.ChangeOld
import Derived.Below
namespace Go.Proofs.Ytipcjkfecppanaa.leafGets
open Go.ChangeShapes Go.WideShapes Go.ChangeAt Go.RowKit
set_option linter.all false

theorem own : ownKnob Try.prog.godebug = none := by kernel_rfl
theorem laidOut : laidOutB Try.prog = true := by kernel_rfl

open Go.Maps
theorem blk_only {W W' : World} {g b : Nat} {vs : List Value} (h : Blk W g vs) (o : Only (fun j => j = b) W W') (hne : ¬ g = b) : Blk W' g vs := fun j v hj => o.cell (h j v hj) hne
theorem row_ne {W W1 : World} {a : Option Addr} {cap b : Nat} {l : List Pr} (h : PRow W (fun j => j < W1.heap.size) (.slice a l.length cap) l) (hb : b < W1.heap.size) : ∀ x, a = some x → l ≠ [] → x.block ≠ b := fun x e _ hx => by
  subst e
  exact h.av x.block rfl (by rw [hx]; exact hb)
theorem doA_err {l : List Pr} (hs : Srt l) {c : Int} (ho : okOp c) (k i : Int) : (doA l c k i).err = 0 := by
  have h1 := ho.1
  have h8 := ho.2
  rcases (show c ≤ 4 ∨ c = 5 ∨ c = 6 ∨ c = 7 ∨ c = 8 by omega) with h | h | h | h | h
  · rw [doA_had hs ho k i h]; rfl
  · rw [doA_rng hs ho k i h]
  · rw [doA_cnt hs ho k i h]
  · rw [doA_min hs ho k i h]; cases l[0]? <;> rfl
  · rw [doA_max hs ho k i h]; cases l[l.length - 1]? <;> rfl
theorem arg_ne {w : World} {a : Option Addr} {cap b : Nat} {l : List Pr} (h : Prs w a cap l) (hb : w.heap.size ≤ b) : ∀ x, a = some x → l ≠ [] → x.block ≠ b := fun x e hl hx => by
  cases l with
  | nil => exact hl rfl
  | cons q l =>
    obtain ⟨g, o, e2, h0, _⟩ := h.2.2.1 0 q rfl
    rw [e] at e2
    cases e2
    have : g < w.heap.size := World.block_lt_of_cell? w _ h0
    dsimp only at hx
    omega
/-- What holds ahead of an operation. -/
structure LG (w wr : World) (b N n : Nat) (D : DW) (ao : Option Addr) (cp : Nat) (l : List Pr) : Prop where
  r : Prs wr ao cp l
  ne : ∀ x, ao = some x → l ≠ [] → x.block ≠ b
  s : Srt l
  len : l.length ≤ 100 + n
  rg : Rng l
  own : OwnI wr b N D
  nl : N ≤ 100 + n
  mi : MI D l
  blw : Below w.heap.size w wr
  bb : w.heap.size ≤ b

set_option maxRecDepth 100000 in
set_option maxHeartbeats 51200000 in
theorem walk (a0 : Option Addr) (cap0 : Nat) (z0 : List Pr) (a1 : Option Addr) (cap1 : Nat) (z1 : List OpD) (w : World) (w0 : Prs w a0 cap0 z0) (r0 : Rng z0) (w1 : Ops w a1 cap1 z1) :
    Calls Try.prog 4 #[.slice a0 z0.length cap0, .slice a1 z1.length cap1] w fun e w' => e = .returned (.bool true) ∧ Below w.heap.size w w' := by
  have H0 := Lib.hid w0
  have H1 := Lib.hid w1
  have HR0 := Lib.hid r0
  have hc := w0.1
  have hcm := w0.2.1
  have hd := w1.1
  have hdm := w1.2.1
  unfold maxLen at hcm hdm
  clear w0 w1 r0
  have ca := fun W => awake_any W
  have cm := fun W h => lmay_any a0 cap0 z0 W h _ rfl
  have cm2 := fun W h => rmay_any a0 cap0 z0 W h _ rfl
  have hmm := @run_makeMap Try.prog
  by_cases hbig : 100 < z0.length
  · have hbig' : (100 : Int) < (z0.length : Int) := by omega
    go_enter Try.func4, Try.ntmps4
    go_wp2_with (first
      | (go_at_call 13; ((with_reducible refine (cm _ H0.out).mono ?_); rintro e w1 ⟨rfl, hb1⟩))
      | (go_at_call 8; ((with_reducible refine (ca _).mono ?_); rintro e w3 ⟨rfl, hb⟩)))
    go_ret
    exact ⟨rfl, hb⟩
  have hbig' : ¬ (100 : Int) < (z0.length : Int) := by omega
  by_cases hbig2 : 100 < z1.length
  · have hbig2' : (100 : Int) < (z1.length : Int) := by omega
    go_enter Try.func4, Try.ntmps4
    go_wp2_with (first
      | (go_at_call 13; ((with_reducible refine (cm _ H0.out).mono ?_); rintro e w1 ⟨rfl, hb1⟩))
      | (go_at_call 8; ((with_reducible refine (ca _).mono ?_); rintro e w3 ⟨rfl, hb⟩)))
    go_ret
    exact ⟨rfl, hb⟩
  have hbig2' : ¬ (100 : Int) < (z1.length : Int) := by omega
  have HL : Hid (z0.length ≤ 100 ∧ z1.length ≤ 100) := Lib.hid ⟨by omega, by omega⟩
  clear hbig hbig2
  by_cases hs : Srt z0
  rotate_left
  · rw [decide_eq_false hs] at cm
    go_enter Try.func4, Try.ntmps4
    go_wp2_with (first
      | (go_at_call 13; ((with_reducible refine (cm _ H0.out).mono ?_); rintro e w1 ⟨rfl, hb1⟩))
      | (go_at_call 8; ((with_reducible refine (ca _).mono ?_); rintro e w3 ⟨rfl, hb⟩)))
    go_ret
    exact ⟨rfl, bel2 hb1 hb⟩
  rw [decide_eq_true hs] at cm cm2
  have HS := Lib.hid hs
  clear hs
  go_enter Try.func4, Try.ntmps4
  go_wp2_with (first
    | (go_at_call 13; ((with_reducible refine (cm _ H0.out).mono ?_); clear cm; rintro e w1 ⟨rfl, hb1⟩))
    | (go_at_call 14; ((with_reducible refine (cm2 _ (H0.out.below hb1)).mono ?_); clear cm2; rintro e w2 ⟨rfl, hb2⟩)))
  have HB2 := Lib.hid (bel1 (bel2 hb1 hb2) (.map #[] 0))
  have HM2 : Hid (OwnI (w2.alloc (.map #[] 0)) w2.heap.size 0 (.map [])) := Lib.hid (World.ownsMap_made w2 _ _ _)
  have HW2 : Hid (w.heap.size ≤ w2.heap.size) := Lib.hid (bel2 hb1 hb2).size
  clear hb1 hb2 hmm
  obtain ⟨b, hb⟩ : ∃ b, w2.heap.size = b := ⟨_, rfl⟩
  rw [hb] at HM2 HW2
  have HBB := Lib.hid hb
  try rw [hb]
  go_loopw [40] (fun i wr => ∃ (n N : Nat) (D : DW), n ≤ z0.length ∧ i = .int .i64 n ∧ N ≤ n ∧ OwnI wr b N D ∧ MI D (z0.take n) ∧ Below w.heap.size w wr) (fun i _ => z0.length - (intOf i).toNat)
  case atStart => exact ⟨0, 0, .map [], Nat.zero_le _, rfl, Nat.zero_le _, HM2.out, by rw [List.take_zero]; exact MI.nil, HB2.out⟩
  case round =>
    obtain ⟨n, N, D, hn, rfl, hN, hO, hM, hB⟩ := hrel
    have HO := Lib.hid hO
    have HM := Lib.hid hM
    have HB := Lib.hid hB
    have HN := Lib.hid hN
    clear hO hM hB hN hb
    by_cases hlt : n < z0.length
    · obtain ⟨q, hq⟩ : ∃ q, z0[n]? = some q := ⟨_, List.getElem?_eq_getElem hlt⟩
      obtain ⟨pb, po, rfl, e0, e1⟩ := (H0.out.below HB.out).2.2.1 n q hq
      have hwf := HR0.out q (List.mem_of_getElem? hq)
      obtain ⟨q0, q1⟩ := q
      dsimp only at e0 e1 hwf
      have HQ := Lib.hid hq
      have HWF := Lib.hid hwf
      have hn0 : (0 : Int) ≤ (n : Int) := by omega
      have hnl : (n : Int) < (z0.length : Int) := by omega
      have hO2 : OwnI (wr.alloc (.cells #[.int .i64 q0, .int .i64 q1] 27)) b N D := HO.out.keep (bel1 (Below.refl _ _) _)
      have HLT := Lib.hid hlt
      clear hq hwf hlt
      go_wp2_with (at_mapUpdate; refine wpList_mapUpdate_own _ rfl _ _ _ 40 rfl 3 3 lawI mI_under _ b N D rfl hO2 (by unfold maxLen; have h9 := HN.out; have h8 := HL.out.1; omega) _ _ _ rfl rfl (keyOf_int_mk int_under HWF.out.1) _ [] (plainElem_int int_under HWF.out.2) ?_; intro w7 hown7 hgrow7; have HO7 : Hid (OwnI w7 b (N + 1) (D.put (.int .i64 q0) (i64 q1))) := Lib.hid hown7; have HG7 := Lib.hid (Only.grownBy hgrow7); clear hown7 hgrow7)
      go_roundw
      case rel => exact ⟨n + 1, N + 1, _, HLT.out, by go_num, Nat.succ_le_succ HN.out, HO7.out, HM.out.next HS.out HQ.out, (bel1 HB.out _).trans (HG7.out.below (fun i hi => by have := HW2.out; omega) (bel1 HB.out (.cells #[.int .i64 q0, .int .i64 q1] 27)).size)⟩
      case measure => have := HLT.out; simp [intOf]; omega
    · obtain rfl : n = z0.length := by omega
      rw [List.take_of_length_le (Nat.le_refl _)] at HM
      have HLG : Hid (LG w wr b N 0 D a0 cap0 z0) := Lib.hid ⟨H0.out.below HB.out, arg_ne H0.out HW2.out, HS.out, by have := HL.out.1; omega, HR0.out, HO.out, by have h9 := HN.out; have h8 := HL.out.1; omega, HM.out, HB.out, HW2.out⟩
      clear HN HB HM HO
      go_wp2_with (fail)
      go_loopw [0, 52] (fun x i wr => ∃ (n N : Nat) (D : DW) (ao : Option Addr) (cp : Nat) (l : List Pr), n ≤ z1.length ∧ i = .int .i64 n ∧ x = .slice ao l.length cp ∧ LG w wr b N n D ao cp l) (fun _ i _ => z1.length - (intOf i).toNat)
      case atStart => exact ⟨0, N, D, a0, cap0, z0, Nat.zero_le _, rfl, rfl, HLG.out⟩
      case round =>
        clear HLG
        obtain ⟨n, N, D, ao, cp, l, hn, rfl, rfl, hG⟩ := hrel
        have HG := Lib.hid hG
        clear hG
        by_cases hlt : n < z1.length
        · obtain ⟨q, hq⟩ : ∃ q, z1[n]? = some q := ⟨_, List.getElem?_eq_getElem hlt⟩
          obtain ⟨pb, po, rfl, e0, e1, e2, e3⟩ := (H1.out.below HG.out.blw).2.2.1 n q hq
          have HWF : Hid q.wf := Lib.hid (H1.out.2.2.2 q (List.mem_of_getElem? hq))
          obtain ⟨c, k, i, v⟩ := q
          dsimp only at e0 e1 e2 e3
          have hn0 : (0 : Int) ≤ (n : Int) := by omega
          have hnl : (n : Int) < (z1.length : Int) := by omega
          have HLT := Lib.hid hlt
          have cd := fun W h => ldo_any ao cp l c k i v W h (Nat.le_trans HG.out.len (by have := HL.out.2; have h7 := HLT.out; omega))
          have cr := fun W => rmayop_any c k i v W _ rfl
          clear hq hlt
          by_cases ho : okOp c
          rotate_left
          · rw [doA_bad (fun hh => ho hh.2), doP_bad (fun hh => ho hh.2)] at cd
            rw [decide_eq_false ho] at cr
            unfold DoIs Ad.val at cd
            dsimp only at cd
            clear ho
            go_wp2_with (fail)
            refine (cd _ (HG.out.r.below (bel1 (Below.refl _ _) _))).mono ?_
            rintro e w3 ⟨ao2, cp2, aa2, ca2, rfl, hR, hT, hb3⟩
            have HP3 := Lib.hid (hR.prs rfl)
            have HK3 := Lib.hid ((Blk.new wr #[.int .i64 c, .int .i64 k, .int .i64 i, .int .i64 v] 24).keep hb3)
            have HB3 := Lib.hid (bel2 (bel1 (Below.refl _ wr) _) hb3)
            have HK4 := Lib.hid (HK3.out.past (.cells #[.int .i64 1, .bool false, .int .i64 0, .int .i64 0, .int .i64 0, .slice aa2 0 ca2] 29))
            have HA4 := Lib.hid (Blk.new w3 #[.int .i64 1, .bool false, .int .i64 0, .int .i64 0, .int .i64 0, .slice aa2 0 ca2] 29)
            have HB4 := Lib.hid (bel1 HB3.out (.cells #[.int .i64 1, .bool false, .int .i64 0, .int .i64 0, .int .i64 0, .slice aa2 0 ca2] 29))
            have HP4 := Lib.hid (HP3.out.below (bel1 (Below.refl _ _) (.cells #[.int .i64 1, .bool false, .int .i64 0, .int .i64 0, .int .i64 0, .slice aa2 0 ca2] 29)))
            clear hR hT hb3 HP3 HK3 HB3
            have p0 := HK4.out 0 _ rfl
            have p1 := HK4.out 1 _ rfl
            have p2 := HK4.out 2 _ rfl
            have p3 := HK4.out 3 _ rfl
            go_wp2_with (fail)
            refine (cr _).mono ?_
            rintro e w5 ⟨rfl, hb5⟩
            clear p0 p1 p2 p3
            have a0' := (HA4.out.keep hb5) 0 _ rfl
            have HB5 := Lib.hid (bel2 HB4.out hb5)
            have HP5 := Lib.hid (HP4.out.below hb5)
            clear hb5
            go_wp2_with (go_at_call 11; ((with_reducible refine (samep_any _ _ _ _ l l _ (HG.out.r.below HB5.out) HP5.out true (decide_eq_true rfl)).mono ?_); rintro e w6 ⟨rfl, hb6⟩))
            go_roundw
            case rel => exact ⟨n + 1, N, D, ao, cp, l, HLT.out, by go_num, rfl, ⟨HG.out.r.below (bel2 HB5.out hb6), HG.out.ne, HG.out.s, Nat.le_succ_of_le HG.out.len, HG.out.rg, HG.out.own.keep (bel2 HB5.out hb6), Nat.le_succ_of_le HG.out.nl, HG.out.mi, HG.out.blw.trans ((bel2 HB5.out hb6).mono HG.out.blw.size), HG.out.bb⟩⟩
            case measure => have := HLT.out; simp [intOf]; omega
          rw [decide_eq_true ho] at cr
          obtain ⟨m, hM⟩ : ∃ m, doP l c k v = m := ⟨_, rfl⟩
          obtain ⟨A, hA⟩ : ∃ A, doA l c k i = A := ⟨_, rfl⟩
          have hms : Srt m := by rw [← hM]; exact doP_srt HG.out.s ho k v
          have HMS := Lib.hid hms
          have HM := Lib.hid hM
          have HML : Hid (m.length ≤ 100 + (n + 1)) := Lib.hid (by have h9 := doP_len HG.out.s ho k v; have h8 := HG.out.len; rw [hM] at h9; omega)
          have HRG : Hid (Rng m) := Lib.hid (by rw [← hM]; exact rng_doP HG.out.s ho HG.out.rg HWF.out.2.1 HWF.out.2.2.2)
          have hAe : A.err = 0 := by rw [← hA]; exact doA_err HG.out.s ho k i
          have hAo : c ≤ 4 → A.ok = has D (.int .i64 k) := fun h => by rw [← hA, doA_had HG.out.s ho k i h]; exact HG.out.mi.had k
          have hAp : c ≤ 4 → has D (.int .i64 k) = true → ∃ v0, A.k = k ∧ A.v = v0 ∧ ∀ z, D.atKey (.int .i64 k) z = i64 v0 := fun h hh => by
            rw [← HG.out.mi.had k] at hh
            obtain ⟨v0, h1, h2⟩ := hadL_some hh
            rw [← hA, doA_had HG.out.s ho k i h]
            refine ⟨v0, ?_, ?_, (HG.out.mi.at_ k v0 h1).2⟩
            · unfold hadD; rw [h2]
            · unfold hadD; rw [h2]
          rw [hM, hA] at cd
          obtain ⟨Ae, Ao, Ak, Av, An, Ap⟩ := A
          dsimp only at hAe hAo hAp
          subst hAe
          unfold DoIs Ad.val at cd
          dsimp only at cd
          clear hA
          have HC := Lib.hid (And.intro ho (And.intro hAo hAp))
          clear ho hAo hAp
          go_wp2_with (fail)
          refine (cd _ (HG.out.r.below (bel1 (Below.refl _ _) _))).mono ?_
          rintro e w3 ⟨ao2, cp2, aa2, ca2, rfl, hR, hT, hb3⟩
          have HP3 := Lib.hid (hR.prs rfl)
          have HNE := Lib.hid (row_ne hR (Nat.lt_of_lt_of_le HG.out.own.lt (bel1 (Below.refl _ wr) (.cells #[.int .i64 c, .int .i64 k, .int .i64 i, .int .i64 v] 24)).size))
          have HNB : Hid (¬ wr.heap.size = b ∧ ¬ w3.heap.size = b) := Lib.hid (by have h9 := HG.out.own.lt; have h8 := (bel2 (bel1 (Below.refl _ wr) _) hb3).size; omega)
          have HK3 := Lib.hid ((Blk.new wr #[.int .i64 c, .int .i64 k, .int .i64 i, .int .i64 v] 24).keep hb3)
          have HB3 := Lib.hid (bel2 (bel1 (Below.refl _ wr) _) hb3)
          have HK4 := Lib.hid (HK3.out.past (.cells #[.int .i64 0, .bool Ao, .int .i64 Ak, .int .i64 Av, .int .i64 An, .slice aa2 Ap.length ca2] 29))
          have HA4 := Lib.hid (Blk.new w3 #[.int .i64 0, .bool Ao, .int .i64 Ak, .int .i64 Av, .int .i64 An, .slice aa2 Ap.length ca2] 29)
          have HB4 := Lib.hid (bel1 HB3.out (.cells #[.int .i64 0, .bool Ao, .int .i64 Ak, .int .i64 Av, .int .i64 An, .slice aa2 Ap.length ca2] 29))
          have HP4 := Lib.hid (HP3.out.below (bel1 (Below.refl _ _) (.cells #[.int .i64 0, .bool Ao, .int .i64 Ak, .int .i64 Av, .int .i64 An, .slice aa2 Ap.length ca2] 29)))
          clear hR hT hb3 HP3 HK3 HB3
          have p0 := HK4.out 0 _ rfl
          have p1 := HK4.out 1 _ rfl
          have p2 := HK4.out 2 _ rfl
          have p3 := HK4.out 3 _ rfl
          go_wp2_with (fail)
          refine (cr _).mono ?_
          rintro e w5 ⟨rfl, hb5⟩
          clear p0 p1 p2 p3
          have HA5 := Lib.hid (HA4.out.keep hb5)
          have a0 := HA5.out 0 _ rfl
          have a1 := HA5.out 1 _ rfl
          have a2 := HA5.out 2 _ rfl
          have a3 := HA5.out 3 _ rfl
          have HK5 := Lib.hid (HK4.out.keep hb5)
          have p0 := HK5.out 0 _ rfl
          have p1 := HK5.out 1 _ rfl
          have p2 := HK5.out 2 _ rfl
          have p3 := HK5.out 3 _ rfl
          have HB5 := Lib.hid (HG.out.blw.trans ((bel2 HB4.out hb5).mono HG.out.blw.size))
          have HP5 := Lib.hid (HP4.out.below hb5)
          have HO5 := Lib.hid (HG.out.own.keep (bel2 HB4.out hb5))
          clear hb5 cd cr e0 e1 e2 e3
          obtain ⟨ho, hAo, hAp⟩ := HC.out
          clear HC
          by_cases h4 : c ≤ 4
          rotate_left
          · obtain ⟨B5, hh⟩ : ∃ B5, has D (.int .i64 k) = B5 := ⟨_, rfl⟩
            have h4d : decide (c ≤ 4) = false := decide_eq_false h4
            have hc1 : (c == 1) = false := by rw [beq_eq_false_iff_ne]; omega
            have hc2 : (c == 2) = false := by rw [beq_eq_false_iff_ne]; omega
            have hc3 : (c == 3) = false := by rw [beq_eq_false_iff_ne]; omega
            have HO5n : Hid (OwnI w5 b (N + 1) D) := Lib.hid (World.ownsMap.mono HO5.out (Nat.le_succ N))
            have HMI : Hid (MI (D) m) := Lib.hid (by rw [← HM.out]; exact by rw [doP_read HG.out.s ho k v (by omega)]; exact HG.out.mi)
            clear hM hms h4 hAo hAp ho
            go_wp2_with (first
              | (at_lookup; refine wpList_lookup_own_ok_int _ rfl _ _ 40 rfl 3 3 .i64 lawI mI_under int_under (zeroI _) b N D rfl HO5.out _ _ rfl (keyOf_int_mk int_under HWF.out.2.1) ?_; intro cv hat hwc; rw [hh]; clear hat hwc)
              | (go_at_call 13; ((with_reducible refine (lmay_any _ _ m _ HP5.out true (decide_eq_true HMS.out)).mono ?_); rintro e w8 ⟨rfl, hb8⟩; have HO8 := Lib.hid (HO5n.out.keep hb8); have HP8 := Lib.hid (HP5.out.below hb8); have HB8 := Lib.hid (bel2 HB5.out hb8); have u0 := cell_keep a0 hb8; have hlen := World.ownsMap.len HO8.out mI_under; have hsz := HMI.out.sz; rw [hsz] at hlen; clear hsz hb8)))
            go_loopw [144] (fun i W => ∃ j : Nat, j ≤ m.length ∧ i = .int .i64 j ∧ Below w8.heap.size w8 W) (fun i _ => m.length - (intOf i).toNat)
            case atStart => exact ⟨0, Nat.zero_le _, rfl, Below.refl _ _⟩
            case round =>
              obtain ⟨j, hj, rfl, hbj⟩ := hrel
              have HBJ := Lib.hid hbj
              clear hbj hlen
              by_cases hjl : j < m.length
              · obtain ⟨q, hq⟩ : ∃ q, m[j]? = some q := ⟨_, List.getElem?_eq_getElem hjl⟩
                obtain ⟨pb, po, rfl, f0, f1⟩ := (HP8.out.below HBJ.out).2.2.1 j q hq
                have hwf := HRG.out q (List.mem_of_getElem? hq)
                obtain ⟨q0, q1⟩ := q
                dsimp only at f0 f1 hwf
                have hmi := HMI.out.at_ q0 q1 (List.mem_of_getElem? hq)
                have hh2 := hmi.1
                have HAT2 := Lib.hid hmi.2
                have HWF2 := Lib.hid hwf
                have hj0 : (0 : Int) ≤ (j : Int) := by omega
                have hj1 : (j : Int) < (m.length : Int) := by omega
                have HJL := Lib.hid hjl
                have hmlI : (m.length : Int) ≤ 300 := by have h9 := HML.out; have h8 := HLT.out; have h7 := HL.out.2; omega
                have hO9 := HO8.out.keep (bel1 HBJ.out (.cells #[.int .i64 q0, .int .i64 q1] 27))
                clear hq hwf hmi hjl
                go_wp2_with (at_lookup; refine wpList_lookup_own_ok_int _ rfl _ _ 40 rfl 3 3 .i64 lawI mI_under int_under (zeroI _) b (N + 1) _ rfl hO9 _ _ rfl (keyOf_int_mk int_under HWF2.out.1) ?_; intro cv2 hat2 hwc2; rw [hh2]; have hcv2 : q1 = cv2 := i64_inj ((HAT2.out _).symm.trans hat2); clear hat2 hwc2)
                go_roundw
                case rel => exact ⟨j + 1, HJL.out, by go_num, bel1 HBJ.out _⟩
                case measure => have := HJL.out; have h9 := HML.out; have h8 := HLT.out; have h7 := HL.out.2; simp [intOf]; omega
              · obtain rfl : j = m.length := by omega
                go_wp2_with (fail)
                go_roundw
                case rel => exact ⟨n + 1, N + 1, _, ao2, cp2, m, HLT.out, by go_num, rfl, ⟨HP8.out.below HBJ.out, HNE.out, HMS.out, HML.out, HRG.out, HO8.out.keep HBJ.out, Nat.succ_le_succ HG.out.nl, HMI.out, bel2 HB8.out HBJ.out, HG.out.bb⟩⟩
                case measure => have := HLT.out; simp [intOf]; omega
          have hAo := hAo h4
          cases hh : has D (.int .i64 k)
          · rw [hh] at hAo
            rw [hAo] at a1
            have h1 := ho.1
            rcases (show c = 1 ∨ c = 2 ∨ c = 3 ∨ c = 4 by omega) with rfl | rfl | rfl | rfl
            · have HMI : Hid (MI (D.put (.int .i64 k) (i64 v)) m) := Lib.hid (by rw [← HM.out]; exact by rw [doP_put HG.out.s ho k v rfl]; exact MI.wth HG.out.s HG.out.mi k v)
              clear hM hms h4 hAo ho h1
              go_wp2_with (first
                | (at_lookup; refine wpList_lookup_own_ok_int _ rfl _ _ 40 rfl 3 3 .i64 lawI mI_under int_under (zeroI _) b N D rfl HO5.out _ _ rfl (keyOf_int_mk int_under HWF.out.2.1) ?_; intro cv hat hwc; rw [hh]; clear hat hwc)
                | (at_mapUpdate; refine wpList_mapUpdate_own _ rfl _ _ _ 40 rfl 3 3 lawI mI_under _ b N D rfl HO5.out (by unfold maxLen; have h9 := HG.out.nl; have h8 := HL.out.2; have h7 := HLT.out; omega) _ _ _ rfl rfl (keyOf_int_mk int_under HWF.out.2.1) _ [] (plainElem_int int_under HWF.out.2.2.2) ?_; intro w7 hown7 hgrow7; have HO7 : Hid (OwnI w7 b (N + 1) (D.put (.int .i64 k) (i64 v))) := Lib.hid hown7; have HG7 := Lib.hid (Only.grownBy hgrow7); have s0 := (blk_only HA5.out HG7.out HNB.out.2) 0 _ rfl; have HP7 := Lib.hid (prs_onlyB HP5.out HNE.out HG7.out); have HB7 := Lib.hid (HB5.out.trans (HG7.out.below (fun i hi => by have := HG.out.bb; omega) HB5.out.size)); clear hown7 hgrow7)
                | (go_at_call 13; ((with_reducible refine (lmay_any _ _ m _ HP7.out true (decide_eq_true HMS.out)).mono ?_); rintro e w8 ⟨rfl, hb8⟩; have HO8 := Lib.hid (HO7.out.keep hb8); have HP8 := Lib.hid (HP7.out.below hb8); have HB8 := Lib.hid (bel2 HB7.out hb8); have u0 := cell_keep s0 hb8; have hlen := World.ownsMap.len HO8.out mI_under; have hsz := HMI.out.sz; rw [hsz] at hlen; clear hsz hb8)))
              go_loopw [144] (fun i W => ∃ j : Nat, j ≤ m.length ∧ i = .int .i64 j ∧ Below w8.heap.size w8 W) (fun i _ => m.length - (intOf i).toNat)
              case atStart => exact ⟨0, Nat.zero_le _, rfl, Below.refl _ _⟩
              case round =>
                obtain ⟨j, hj, rfl, hbj⟩ := hrel
                have HBJ := Lib.hid hbj
                clear hbj hlen
                by_cases hjl : j < m.length
                · obtain ⟨q, hq⟩ : ∃ q, m[j]? = some q := ⟨_, List.getElem?_eq_getElem hjl⟩
                  obtain ⟨pb, po, rfl, f0, f1⟩ := (HP8.out.below HBJ.out).2.2.1 j q hq
                  have hwf := HRG.out q (List.mem_of_getElem? hq)
                  obtain ⟨q0, q1⟩ := q
                  dsimp only at f0 f1 hwf
                  have hmi := HMI.out.at_ q0 q1 (List.mem_of_getElem? hq)
                  have hh2 := hmi.1
                  have HAT2 := Lib.hid hmi.2
                  have HWF2 := Lib.hid hwf
                  have hj0 : (0 : Int) ≤ (j : Int) := by omega
                  have hj1 : (j : Int) < (m.length : Int) := by omega
                  have HJL := Lib.hid hjl
                  have hmlI : (m.length : Int) ≤ 300 := by have h9 := HML.out; have h8 := HLT.out; have h7 := HL.out.2; omega
                  have hO9 := HO8.out.keep (bel1 HBJ.out (.cells #[.int .i64 q0, .int .i64 q1] 27))
                  clear hq hwf hmi hjl
                  go_wp2_with (at_lookup; refine wpList_lookup_own_ok_int _ rfl _ _ 40 rfl 3 3 .i64 lawI mI_under int_under (zeroI _) b (N + 1) _ rfl hO9 _ _ rfl (keyOf_int_mk int_under HWF2.out.1) ?_; intro cv2 hat2 hwc2; rw [hh2]; have hcv2 : q1 = cv2 := i64_inj ((HAT2.out _).symm.trans hat2); clear hat2 hwc2)
                  go_roundw
                  case rel => exact ⟨j + 1, HJL.out, by go_num, bel1 HBJ.out _⟩
                  case measure => have := HJL.out; have h9 := HML.out; have h8 := HLT.out; have h7 := HL.out.2; simp [intOf]; omega
                · obtain rfl : j = m.length := by omega
                  go_wp2_with (fail)
                  go_roundw
                  case rel => exact ⟨n + 1, N + 1, _, ao2, cp2, m, HLT.out, by go_num, rfl, ⟨HP8.out.below HBJ.out, HNE.out, HMS.out, HML.out, HRG.out, HO8.out.keep HBJ.out, Nat.succ_le_succ HG.out.nl, HMI.out, bel2 HB8.out HBJ.out, HG.out.bb⟩⟩
                  case measure => have := HLT.out; simp [intOf]; omega
            · have HMI : Hid (MI (D.put (.int .i64 k) (i64 v)) m) := Lib.hid (by rw [← HM.out]; exact by rw [doP_add HG.out.s ho k v rfl, if_neg (by rw [HG.out.mi.had k, hh]; decide)]; exact MI.wth HG.out.s HG.out.mi k v)
              clear hM hms h4 hAo ho h1
              go_wp2_with (first
                | (at_lookup; refine wpList_lookup_own_ok_int _ rfl _ _ 40 rfl 3 3 .i64 lawI mI_under int_under (zeroI _) b N D rfl HO5.out _ _ rfl (keyOf_int_mk int_under HWF.out.2.1) ?_; intro cv hat hwc; rw [hh]; clear hat hwc)
                | (at_mapUpdate; refine wpList_mapUpdate_own _ rfl _ _ _ 40 rfl 3 3 lawI mI_under _ b N D rfl HO5.out (by unfold maxLen; have h9 := HG.out.nl; have h8 := HL.out.2; have h7 := HLT.out; omega) _ _ _ rfl rfl (keyOf_int_mk int_under HWF.out.2.1) _ [] (plainElem_int int_under HWF.out.2.2.2) ?_; intro w7 hown7 hgrow7; have HO7 : Hid (OwnI w7 b (N + 1) (D.put (.int .i64 k) (i64 v))) := Lib.hid hown7; have HG7 := Lib.hid (Only.grownBy hgrow7); have s0 := (blk_only HA5.out HG7.out HNB.out.2) 0 _ rfl; have HP7 := Lib.hid (prs_onlyB HP5.out HNE.out HG7.out); have HB7 := Lib.hid (HB5.out.trans (HG7.out.below (fun i hi => by have := HG.out.bb; omega) HB5.out.size)); clear hown7 hgrow7)
                | (go_at_call 13; ((with_reducible refine (lmay_any _ _ m _ HP7.out true (decide_eq_true HMS.out)).mono ?_); rintro e w8 ⟨rfl, hb8⟩; have HO8 := Lib.hid (HO7.out.keep hb8); have HP8 := Lib.hid (HP7.out.below hb8); have HB8 := Lib.hid (bel2 HB7.out hb8); have u0 := cell_keep s0 hb8; have hlen := World.ownsMap.len HO8.out mI_under; have hsz := HMI.out.sz; rw [hsz] at hlen; clear hsz hb8)))
              go_loopw [144] (fun i W => ∃ j : Nat, j ≤ m.length ∧ i = .int .i64 j ∧ Below w8.heap.size w8 W) (fun i _ => m.length - (intOf i).toNat)
              case atStart => exact ⟨0, Nat.zero_le _, rfl, Below.refl _ _⟩
              case round =>
                obtain ⟨j, hj, rfl, hbj⟩ := hrel
                have HBJ := Lib.hid hbj
                clear hbj hlen
                by_cases hjl : j < m.length
                · obtain ⟨q, hq⟩ : ∃ q, m[j]? = some q := ⟨_, List.getElem?_eq_getElem hjl⟩
                  obtain ⟨pb, po, rfl, f0, f1⟩ := (HP8.out.below HBJ.out).2.2.1 j q hq
                  have hwf := HRG.out q (List.mem_of_getElem? hq)
                  obtain ⟨q0, q1⟩ := q
                  dsimp only at f0 f1 hwf
                  have hmi := HMI.out.at_ q0 q1 (List.mem_of_getElem? hq)
                  have hh2 := hmi.1
                  have HAT2 := Lib.hid hmi.2
                  have HWF2 := Lib.hid hwf
                  have hj0 : (0 : Int) ≤ (j : Int) := by omega
                  have hj1 : (j : Int) < (m.length : Int) := by omega
                  have HJL := Lib.hid hjl
                  have hmlI : (m.length : Int) ≤ 300 := by have h9 := HML.out; have h8 := HLT.out; have h7 := HL.out.2; omega
                  have hO9 := HO8.out.keep (bel1 HBJ.out (.cells #[.int .i64 q0, .int .i64 q1] 27))
                  clear hq hwf hmi hjl
                  go_wp2_with (at_lookup; refine wpList_lookup_own_ok_int _ rfl _ _ 40 rfl 3 3 .i64 lawI mI_under int_under (zeroI _) b (N + 1) _ rfl hO9 _ _ rfl (keyOf_int_mk int_under HWF2.out.1) ?_; intro cv2 hat2 hwc2; rw [hh2]; have hcv2 : q1 = cv2 := i64_inj ((HAT2.out _).symm.trans hat2); clear hat2 hwc2)
                  go_roundw
                  case rel => exact ⟨j + 1, HJL.out, by go_num, bel1 HBJ.out _⟩
                  case measure => have := HJL.out; have h9 := HML.out; have h8 := HLT.out; have h7 := HL.out.2; simp [intOf]; omega
                · obtain rfl : j = m.length := by omega
                  go_wp2_with (fail)
                  go_roundw
                  case rel => exact ⟨n + 1, N + 1, _, ao2, cp2, m, HLT.out, by go_num, rfl, ⟨HP8.out.below HBJ.out, HNE.out, HMS.out, HML.out, HRG.out, HO8.out.keep HBJ.out, Nat.succ_le_succ HG.out.nl, HMI.out, bel2 HB8.out HBJ.out, HG.out.bb⟩⟩
                  case measure => have := HLT.out; simp [intOf]; omega
            · have HMI : Hid (MI (D.del (.int .i64 k)) m) := Lib.hid (by rw [← HM.out]; exact by rw [doP_cut HG.out.s ho k v rfl]; exact MI.cut HG.out.s HG.out.mi k)
              clear hM hms h4 hAo ho h1
              go_wp2_with (first
                | (at_lookup; refine wpList_lookup_own_ok_int _ rfl _ _ 40 rfl 3 3 .i64 lawI mI_under int_under (zeroI _) b N D rfl HO5.out _ _ rfl (keyOf_int_mk int_under HWF.out.2.1) ?_; intro cv hat hwc; rw [hh]; clear hat hwc)
                | (at_delete; refine wpList_delete_own _ rfl _ _ 40 3 rfl 3 lawI mI_under _ b N D rfl HO5.out _ _ rfl (keyOf_int_mk int_under HWF.out.2.1) ?_; intro w7 hown7 hturn7; have HO7 : Hid (OwnI w7 b (N + 1) (D.del (.int .i64 k))) := Lib.hid (World.ownsMap.mono hown7 (Nat.le_succ N)); have HG7 := Lib.hid (Only.grownBy hturn7.grown); have s0 := (blk_only HA5.out HG7.out HNB.out.2) 0 _ rfl; have HP7 := Lib.hid (prs_onlyB HP5.out HNE.out HG7.out); have HB7 := Lib.hid (HB5.out.trans (HG7.out.below (fun i hi => by have := HG.out.bb; omega) HB5.out.size)); clear hown7 hturn7)
                | (go_at_call 13; ((with_reducible refine (lmay_any _ _ m _ HP7.out true (decide_eq_true HMS.out)).mono ?_); rintro e w8 ⟨rfl, hb8⟩; have HO8 := Lib.hid (HO7.out.keep hb8); have HP8 := Lib.hid (HP7.out.below hb8); have HB8 := Lib.hid (bel2 HB7.out hb8); have u0 := cell_keep s0 hb8; have hlen := World.ownsMap.len HO8.out mI_under; have hsz := HMI.out.sz; rw [hsz] at hlen; clear hsz hb8)))
              go_loopw [144] (fun i W => ∃ j : Nat, j ≤ m.length ∧ i = .int .i64 j ∧ Below w8.heap.size w8 W) (fun i _ => m.length - (intOf i).toNat)
              case atStart => exact ⟨0, Nat.zero_le _, rfl, Below.refl _ _⟩
              case round =>
                obtain ⟨j, hj, rfl, hbj⟩ := hrel
                have HBJ := Lib.hid hbj
                clear hbj hlen
                by_cases hjl : j < m.length
                · obtain ⟨q, hq⟩ : ∃ q, m[j]? = some q := ⟨_, List.getElem?_eq_getElem hjl⟩
                  obtain ⟨pb, po, rfl, f0, f1⟩ := (HP8.out.below HBJ.out).2.2.1 j q hq
                  have hwf := HRG.out q (List.mem_of_getElem? hq)
                  obtain ⟨q0, q1⟩ := q
                  dsimp only at f0 f1 hwf
                  have hmi := HMI.out.at_ q0 q1 (List.mem_of_getElem? hq)
                  have hh2 := hmi.1
                  have HAT2 := Lib.hid hmi.2
                  have HWF2 := Lib.hid hwf
                  have hj0 : (0 : Int) ≤ (j : Int) := by omega
                  have hj1 : (j : Int) < (m.length : Int) := by omega
                  have HJL := Lib.hid hjl
                  have hmlI : (m.length : Int) ≤ 300 := by have h9 := HML.out; have h8 := HLT.out; have h7 := HL.out.2; omega
                  have hO9 := HO8.out.keep (bel1 HBJ.out (.cells #[.int .i64 q0, .int .i64 q1] 27))
                  clear hq hwf hmi hjl
                  go_wp2_with (at_lookup; refine wpList_lookup_own_ok_int _ rfl _ _ 40 rfl 3 3 .i64 lawI mI_under int_under (zeroI _) b (N + 1) _ rfl hO9 _ _ rfl (keyOf_int_mk int_under HWF2.out.1) ?_; intro cv2 hat2 hwc2; rw [hh2]; have hcv2 : q1 = cv2 := i64_inj ((HAT2.out _).symm.trans hat2); clear hat2 hwc2)
                  go_roundw
                  case rel => exact ⟨j + 1, HJL.out, by go_num, bel1 HBJ.out _⟩
                  case measure => have := HJL.out; have h9 := HML.out; have h8 := HLT.out; have h7 := HL.out.2; simp [intOf]; omega
                · obtain rfl : j = m.length := by omega
                  go_wp2_with (fail)
                  go_roundw
                  case rel => exact ⟨n + 1, N + 1, _, ao2, cp2, m, HLT.out, by go_num, rfl, ⟨HP8.out.below HBJ.out, HNE.out, HMS.out, HML.out, HRG.out, HO8.out.keep HBJ.out, Nat.succ_le_succ HG.out.nl, HMI.out, bel2 HB8.out HBJ.out, HG.out.bb⟩⟩
                  case measure => have := HLT.out; simp [intOf]; omega
            · have HO5n : Hid (OwnI w5 b (N + 1) D) := Lib.hid (World.ownsMap.mono HO5.out (Nat.le_succ N))
              have HMI : Hid (MI (D) m) := Lib.hid (by rw [← HM.out]; exact by rw [doP_read HG.out.s ho k v (by decide)]; exact HG.out.mi)
              clear hM hms h4 hAo ho h1
              go_wp2_with (first
                | (at_lookup; refine wpList_lookup_own_ok_int _ rfl _ _ 40 rfl 3 3 .i64 lawI mI_under int_under (zeroI _) b N D rfl HO5.out _ _ rfl (keyOf_int_mk int_under HWF.out.2.1) ?_; intro cv hat hwc; rw [hh]; clear hat hwc)
                | (go_at_call 13; ((with_reducible refine (lmay_any _ _ m _ HP5.out true (decide_eq_true HMS.out)).mono ?_); rintro e w8 ⟨rfl, hb8⟩; have HO8 := Lib.hid (HO5n.out.keep hb8); have HP8 := Lib.hid (HP5.out.below hb8); have HB8 := Lib.hid (bel2 HB5.out hb8); have u0 := cell_keep a0 hb8; have hlen := World.ownsMap.len HO8.out mI_under; have hsz := HMI.out.sz; rw [hsz] at hlen; clear hsz hb8)))
              go_loopw [144] (fun i W => ∃ j : Nat, j ≤ m.length ∧ i = .int .i64 j ∧ Below w8.heap.size w8 W) (fun i _ => m.length - (intOf i).toNat)
              case atStart => exact ⟨0, Nat.zero_le _, rfl, Below.refl _ _⟩
              case round =>
                obtain ⟨j, hj, rfl, hbj⟩ := hrel
                have HBJ := Lib.hid hbj
                clear hbj hlen
                by_cases hjl : j < m.length
                · obtain ⟨q, hq⟩ : ∃ q, m[j]? = some q := ⟨_, List.getElem?_eq_getElem hjl⟩
                  obtain ⟨pb, po, rfl, f0, f1⟩ := (HP8.out.below HBJ.out).2.2.1 j q hq
                  have hwf := HRG.out q (List.mem_of_getElem? hq)
                  obtain ⟨q0, q1⟩ := q
                  dsimp only at f0 f1 hwf
                  have hmi := HMI.out.at_ q0 q1 (List.mem_of_getElem? hq)
                  have hh2 := hmi.1
                  have HAT2 := Lib.hid hmi.2
                  have HWF2 := Lib.hid hwf
                  have hj0 : (0 : Int) ≤ (j : Int) := by omega
                  have hj1 : (j : Int) < (m.length : Int) := by omega
                  have HJL := Lib.hid hjl
                  have hmlI : (m.length : Int) ≤ 300 := by have h9 := HML.out; have h8 := HLT.out; have h7 := HL.out.2; omega
                  have hO9 := HO8.out.keep (bel1 HBJ.out (.cells #[.int .i64 q0, .int .i64 q1] 27))
                  clear hq hwf hmi hjl
                  go_wp2_with (at_lookup; refine wpList_lookup_own_ok_int _ rfl _ _ 40 rfl 3 3 .i64 lawI mI_under int_under (zeroI _) b (N + 1) _ rfl hO9 _ _ rfl (keyOf_int_mk int_under HWF2.out.1) ?_; intro cv2 hat2 hwc2; rw [hh2]; have hcv2 : q1 = cv2 := i64_inj ((HAT2.out _).symm.trans hat2); clear hat2 hwc2)
                  go_roundw
                  case rel => exact ⟨j + 1, HJL.out, by go_num, bel1 HBJ.out _⟩
                  case measure => have := HJL.out; have h9 := HML.out; have h8 := HLT.out; have h7 := HL.out.2; simp [intOf]; omega
                · obtain rfl : j = m.length := by omega
                  go_wp2_with (fail)
                  go_roundw
                  case rel => exact ⟨n + 1, N + 1, _, ao2, cp2, m, HLT.out, by go_num, rfl, ⟨HP8.out.below HBJ.out, HNE.out, HMS.out, HML.out, HRG.out, HO8.out.keep HBJ.out, Nat.succ_le_succ HG.out.nl, HMI.out, bel2 HB8.out HBJ.out, HG.out.bb⟩⟩
                  case measure => have := HLT.out; simp [intOf]; omega
          · rw [hh] at hAo
            obtain ⟨v0, hk0, hv0, hat0⟩ := hAp h4 hh
            have HAT := Lib.hid hat0
            clear hat0 hAp
            rw [hAo] at a1
            rw [hk0] at a2
            rw [hv0] at a3
            clear hk0 hv0
            have h1 := ho.1
            rcases (show c = 1 ∨ c = 2 ∨ c = 3 ∨ c = 4 by omega) with rfl | rfl | rfl | rfl
            · have HMI : Hid (MI (D.put (.int .i64 k) (i64 v)) m) := Lib.hid (by rw [← HM.out]; exact by rw [doP_put HG.out.s ho k v rfl]; exact MI.wth HG.out.s HG.out.mi k v)
              clear hM hms h4 hAo ho h1
              go_wp2_with (first
                | (at_lookup; refine wpList_lookup_own_ok_int _ rfl _ _ 40 rfl 3 3 .i64 lawI mI_under int_under (zeroI _) b N D rfl HO5.out _ _ rfl (keyOf_int_mk int_under HWF.out.2.1) ?_; intro cv hat hwc; rw [hh]; have hcv : v0 = cv := i64_inj ((HAT.out _).symm.trans hat); clear hat hwc)
                | (at_mapUpdate; refine wpList_mapUpdate_own _ rfl _ _ _ 40 rfl 3 3 lawI mI_under _ b N D rfl HO5.out (by unfold maxLen; have h9 := HG.out.nl; have h8 := HL.out.2; have h7 := HLT.out; omega) _ _ _ rfl rfl (keyOf_int_mk int_under HWF.out.2.1) _ [] (plainElem_int int_under HWF.out.2.2.2) ?_; intro w7 hown7 hgrow7; have HO7 : Hid (OwnI w7 b (N + 1) (D.put (.int .i64 k) (i64 v))) := Lib.hid hown7; have HG7 := Lib.hid (Only.grownBy hgrow7); have s0 := (blk_only HA5.out HG7.out HNB.out.2) 0 _ rfl; have HP7 := Lib.hid (prs_onlyB HP5.out HNE.out HG7.out); have HB7 := Lib.hid (HB5.out.trans (HG7.out.below (fun i hi => by have := HG.out.bb; omega) HB5.out.size)); clear hown7 hgrow7)
                | (go_at_call 13; ((with_reducible refine (lmay_any _ _ m _ HP7.out true (decide_eq_true HMS.out)).mono ?_); rintro e w8 ⟨rfl, hb8⟩; have HO8 := Lib.hid (HO7.out.keep hb8); have HP8 := Lib.hid (HP7.out.below hb8); have HB8 := Lib.hid (bel2 HB7.out hb8); have u0 := cell_keep s0 hb8; have hlen := World.ownsMap.len HO8.out mI_under; have hsz := HMI.out.sz; rw [hsz] at hlen; clear hsz hb8)))
              go_loopw [144] (fun i W => ∃ j : Nat, j ≤ m.length ∧ i = .int .i64 j ∧ Below w8.heap.size w8 W) (fun i _ => m.length - (intOf i).toNat)
              case atStart => exact ⟨0, Nat.zero_le _, rfl, Below.refl _ _⟩
              case round =>
                obtain ⟨j, hj, rfl, hbj⟩ := hrel
                have HBJ := Lib.hid hbj
                clear hbj hlen
                by_cases hjl : j < m.length
                · obtain ⟨q, hq⟩ : ∃ q, m[j]? = some q := ⟨_, List.getElem?_eq_getElem hjl⟩
                  obtain ⟨pb, po, rfl, f0, f1⟩ := (HP8.out.below HBJ.out).2.2.1 j q hq
                  have hwf := HRG.out q (List.mem_of_getElem? hq)
                  obtain ⟨q0, q1⟩ := q
                  dsimp only at f0 f1 hwf
                  have hmi := HMI.out.at_ q0 q1 (List.mem_of_getElem? hq)
                  have hh2 := hmi.1
                  have HAT2 := Lib.hid hmi.2
                  have HWF2 := Lib.hid hwf
                  have hj0 : (0 : Int) ≤ (j : Int) := by omega
                  have hj1 : (j : Int) < (m.length : Int) := by omega
                  have HJL := Lib.hid hjl
                  have hmlI : (m.length : Int) ≤ 300 := by have h9 := HML.out; have h8 := HLT.out; have h7 := HL.out.2; omega
                  have hO9 := HO8.out.keep (bel1 HBJ.out (.cells #[.int .i64 q0, .int .i64 q1] 27))
                  clear hq hwf hmi hjl
                  go_wp2_with (at_lookup; refine wpList_lookup_own_ok_int _ rfl _ _ 40 rfl 3 3 .i64 lawI mI_under int_under (zeroI _) b (N + 1) _ rfl hO9 _ _ rfl (keyOf_int_mk int_under HWF2.out.1) ?_; intro cv2 hat2 hwc2; rw [hh2]; have hcv2 : q1 = cv2 := i64_inj ((HAT2.out _).symm.trans hat2); clear hat2 hwc2)
                  go_roundw
                  case rel => exact ⟨j + 1, HJL.out, by go_num, bel1 HBJ.out _⟩
                  case measure => have := HJL.out; have h9 := HML.out; have h8 := HLT.out; have h7 := HL.out.2; simp [intOf]; omega
                · obtain rfl : j = m.length := by omega
                  go_wp2_with (fail)
                  go_roundw
                  case rel => exact ⟨n + 1, N + 1, _, ao2, cp2, m, HLT.out, by go_num, rfl, ⟨HP8.out.below HBJ.out, HNE.out, HMS.out, HML.out, HRG.out, HO8.out.keep HBJ.out, Nat.succ_le_succ HG.out.nl, HMI.out, bel2 HB8.out HBJ.out, HG.out.bb⟩⟩
                  case measure => have := HLT.out; simp [intOf]; omega
            · have HO5n : Hid (OwnI w5 b (N + 1) D) := Lib.hid (World.ownsMap.mono HO5.out (Nat.le_succ N))
              have HMI : Hid (MI (D) m) := Lib.hid (by rw [← HM.out]; exact by rw [doP_add HG.out.s ho k v rfl, if_pos ((HG.out.mi.had k).trans hh)]; exact HG.out.mi)
              clear hM hms h4 hAo ho h1
              go_wp2_with (first
                | (at_lookup; refine wpList_lookup_own_ok_int _ rfl _ _ 40 rfl 3 3 .i64 lawI mI_under int_under (zeroI _) b N D rfl HO5.out _ _ rfl (keyOf_int_mk int_under HWF.out.2.1) ?_; intro cv hat hwc; rw [hh]; have hcv : v0 = cv := i64_inj ((HAT.out _).symm.trans hat); clear hat hwc)
                | (go_at_call 13; ((with_reducible refine (lmay_any _ _ m _ HP5.out true (decide_eq_true HMS.out)).mono ?_); rintro e w8 ⟨rfl, hb8⟩; have HO8 := Lib.hid (HO5n.out.keep hb8); have HP8 := Lib.hid (HP5.out.below hb8); have HB8 := Lib.hid (bel2 HB5.out hb8); have u0 := cell_keep a0 hb8; have hlen := World.ownsMap.len HO8.out mI_under; have hsz := HMI.out.sz; rw [hsz] at hlen; clear hsz hb8)))
              go_loopw [144] (fun i W => ∃ j : Nat, j ≤ m.length ∧ i = .int .i64 j ∧ Below w8.heap.size w8 W) (fun i _ => m.length - (intOf i).toNat)
              case atStart => exact ⟨0, Nat.zero_le _, rfl, Below.refl _ _⟩
              case round =>
                obtain ⟨j, hj, rfl, hbj⟩ := hrel
                have HBJ := Lib.hid hbj
                clear hbj hlen
                by_cases hjl : j < m.length
                · obtain ⟨q, hq⟩ : ∃ q, m[j]? = some q := ⟨_, List.getElem?_eq_getElem hjl⟩
                  obtain ⟨pb, po, rfl, f0, f1⟩ := (HP8.out.below HBJ.out).2.2.1 j q hq
                  have hwf := HRG.out q (List.mem_of_getElem? hq)
                  obtain ⟨q0, q1⟩ := q
                  dsimp only at f0 f1 hwf
                  have hmi := HMI.out.at_ q0 q1 (List.mem_of_getElem? hq)
                  have hh2 := hmi.1
                  have HAT2 := Lib.hid hmi.2
                  have HWF2 := Lib.hid hwf
                  have hj0 : (0 : Int) ≤ (j : Int) := by omega
                  have hj1 : (j : Int) < (m.length : Int) := by omega
                  have HJL := Lib.hid hjl
                  have hmlI : (m.length : Int) ≤ 300 := by have h9 := HML.out; have h8 := HLT.out; have h7 := HL.out.2; omega
                  have hO9 := HO8.out.keep (bel1 HBJ.out (.cells #[.int .i64 q0, .int .i64 q1] 27))
                  clear hq hwf hmi hjl
                  go_wp2_with (at_lookup; refine wpList_lookup_own_ok_int _ rfl _ _ 40 rfl 3 3 .i64 lawI mI_under int_under (zeroI _) b (N + 1) _ rfl hO9 _ _ rfl (keyOf_int_mk int_under HWF2.out.1) ?_; intro cv2 hat2 hwc2; rw [hh2]; have hcv2 : q1 = cv2 := i64_inj ((HAT2.out _).symm.trans hat2); clear hat2 hwc2)
                  go_roundw
                  case rel => exact ⟨j + 1, HJL.out, by go_num, bel1 HBJ.out _⟩
                  case measure => have := HJL.out; have h9 := HML.out; have h8 := HLT.out; have h7 := HL.out.2; simp [intOf]; omega
                · obtain rfl : j = m.length := by omega
                  go_wp2_with (fail)
                  go_roundw
                  case rel => exact ⟨n + 1, N + 1, _, ao2, cp2, m, HLT.out, by go_num, rfl, ⟨HP8.out.below HBJ.out, HNE.out, HMS.out, HML.out, HRG.out, HO8.out.keep HBJ.out, Nat.succ_le_succ HG.out.nl, HMI.out, bel2 HB8.out HBJ.out, HG.out.bb⟩⟩
                  case measure => have := HLT.out; simp [intOf]; omega
            · have HMI : Hid (MI (D.del (.int .i64 k)) m) := Lib.hid (by rw [← HM.out]; exact by rw [doP_cut HG.out.s ho k v rfl]; exact MI.cut HG.out.s HG.out.mi k)
              clear hM hms h4 hAo ho h1
              go_wp2_with (first
                | (at_lookup; refine wpList_lookup_own_ok_int _ rfl _ _ 40 rfl 3 3 .i64 lawI mI_under int_under (zeroI _) b N D rfl HO5.out _ _ rfl (keyOf_int_mk int_under HWF.out.2.1) ?_; intro cv hat hwc; rw [hh]; have hcv : v0 = cv := i64_inj ((HAT.out _).symm.trans hat); clear hat hwc)
                | (at_delete; refine wpList_delete_own _ rfl _ _ 40 3 rfl 3 lawI mI_under _ b N D rfl HO5.out _ _ rfl (keyOf_int_mk int_under HWF.out.2.1) ?_; intro w7 hown7 hturn7; have HO7 : Hid (OwnI w7 b (N + 1) (D.del (.int .i64 k))) := Lib.hid (World.ownsMap.mono hown7 (Nat.le_succ N)); have HG7 := Lib.hid (Only.grownBy hturn7.grown); have s0 := (blk_only HA5.out HG7.out HNB.out.2) 0 _ rfl; have HP7 := Lib.hid (prs_onlyB HP5.out HNE.out HG7.out); have HB7 := Lib.hid (HB5.out.trans (HG7.out.below (fun i hi => by have := HG.out.bb; omega) HB5.out.size)); clear hown7 hturn7)
                | (go_at_call 13; ((with_reducible refine (lmay_any _ _ m _ HP7.out true (decide_eq_true HMS.out)).mono ?_); rintro e w8 ⟨rfl, hb8⟩; have HO8 := Lib.hid (HO7.out.keep hb8); have HP8 := Lib.hid (HP7.out.below hb8); have HB8 := Lib.hid (bel2 HB7.out hb8); have u0 := cell_keep s0 hb8; have hlen := World.ownsMap.len HO8.out mI_under; have hsz := HMI.out.sz; rw [hsz] at hlen; clear hsz hb8)))
              go_loopw [144] (fun i W => ∃ j : Nat, j ≤ m.length ∧ i = .int .i64 j ∧ Below w8.heap.size w8 W) (fun i _ => m.length - (intOf i).toNat)
              case atStart => exact ⟨0, Nat.zero_le _, rfl, Below.refl _ _⟩
              case round =>
                obtain ⟨j, hj, rfl, hbj⟩ := hrel
                have HBJ := Lib.hid hbj
                clear hbj hlen
                by_cases hjl : j < m.length
                · obtain ⟨q, hq⟩ : ∃ q, m[j]? = some q := ⟨_, List.getElem?_eq_getElem hjl⟩
                  obtain ⟨pb, po, rfl, f0, f1⟩ := (HP8.out.below HBJ.out).2.2.1 j q hq
                  have hwf := HRG.out q (List.mem_of_getElem? hq)
                  obtain ⟨q0, q1⟩ := q
                  dsimp only at f0 f1 hwf
                  have hmi := HMI.out.at_ q0 q1 (List.mem_of_getElem? hq)
                  have hh2 := hmi.1
                  have HAT2 := Lib.hid hmi.2
                  have HWF2 := Lib.hid hwf
                  have hj0 : (0 : Int) ≤ (j : Int) := by omega
                  have hj1 : (j : Int) < (m.length : Int) := by omega
                  have HJL := Lib.hid hjl
                  have hmlI : (m.length : Int) ≤ 300 := by have h9 := HML.out; have h8 := HLT.out; have h7 := HL.out.2; omega
                  have hO9 := HO8.out.keep (bel1 HBJ.out (.cells #[.int .i64 q0, .int .i64 q1] 27))
                  clear hq hwf hmi hjl
                  go_wp2_with (at_lookup; refine wpList_lookup_own_ok_int _ rfl _ _ 40 rfl 3 3 .i64 lawI mI_under int_under (zeroI _) b (N + 1) _ rfl hO9 _ _ rfl (keyOf_int_mk int_under HWF2.out.1) ?_; intro cv2 hat2 hwc2; rw [hh2]; have hcv2 : q1 = cv2 := i64_inj ((HAT2.out _).symm.trans hat2); clear hat2 hwc2)
                  go_roundw
                  case rel => exact ⟨j + 1, HJL.out, by go_num, bel1 HBJ.out _⟩
                  case measure => have := HJL.out; have h9 := HML.out; have h8 := HLT.out; have h7 := HL.out.2; simp [intOf]; omega
                · obtain rfl : j = m.length := by omega
                  go_wp2_with (fail)
                  go_roundw
                  case rel => exact ⟨n + 1, N + 1, _, ao2, cp2, m, HLT.out, by go_num, rfl, ⟨HP8.out.below HBJ.out, HNE.out, HMS.out, HML.out, HRG.out, HO8.out.keep HBJ.out, Nat.succ_le_succ HG.out.nl, HMI.out, bel2 HB8.out HBJ.out, HG.out.bb⟩⟩
                  case measure => have := HLT.out; simp [intOf]; omega
            · have HO5n : Hid (OwnI w5 b (N + 1) D) := Lib.hid (World.ownsMap.mono HO5.out (Nat.le_succ N))
              have HMI : Hid (MI (D) m) := Lib.hid (by rw [← HM.out]; exact by rw [doP_read HG.out.s ho k v (by decide)]; exact HG.out.mi)
              clear hM hms h4 hAo ho h1
              go_wp2_with (first
                | (at_lookup; refine wpList_lookup_own_ok_int _ rfl _ _ 40 rfl 3 3 .i64 lawI mI_under int_under (zeroI _) b N D rfl HO5.out _ _ rfl (keyOf_int_mk int_under HWF.out.2.1) ?_; intro cv hat hwc; rw [hh]; have hcv : v0 = cv := i64_inj ((HAT.out _).symm.trans hat); clear hat hwc)
                | (go_at_call 13; ((with_reducible refine (lmay_any _ _ m _ HP5.out true (decide_eq_true HMS.out)).mono ?_); rintro e w8 ⟨rfl, hb8⟩; have HO8 := Lib.hid (HO5n.out.keep hb8); have HP8 := Lib.hid (HP5.out.below hb8); have HB8 := Lib.hid (bel2 HB5.out hb8); have u0 := cell_keep a0 hb8; have hlen := World.ownsMap.len HO8.out mI_under; have hsz := HMI.out.sz; rw [hsz] at hlen; clear hsz hb8)))
              go_loopw [144] (fun i W => ∃ j : Nat, j ≤ m.length ∧ i = .int .i64 j ∧ Below w8.heap.size w8 W) (fun i _ => m.length - (intOf i).toNat)
              case atStart => exact ⟨0, Nat.zero_le _, rfl, Below.refl _ _⟩
              case round =>
                obtain ⟨j, hj, rfl, hbj⟩ := hrel
                have HBJ := Lib.hid hbj
                clear hbj hlen
                by_cases hjl : j < m.length
                · obtain ⟨q, hq⟩ : ∃ q, m[j]? = some q := ⟨_, List.getElem?_eq_getElem hjl⟩
                  obtain ⟨pb, po, rfl, f0, f1⟩ := (HP8.out.below HBJ.out).2.2.1 j q hq
                  have hwf := HRG.out q (List.mem_of_getElem? hq)
                  obtain ⟨q0, q1⟩ := q
                  dsimp only at f0 f1 hwf
                  have hmi := HMI.out.at_ q0 q1 (List.mem_of_getElem? hq)
                  have hh2 := hmi.1
                  have HAT2 := Lib.hid hmi.2
                  have HWF2 := Lib.hid hwf
                  have hj0 : (0 : Int) ≤ (j : Int) := by omega
                  have hj1 : (j : Int) < (m.length : Int) := by omega
                  have HJL := Lib.hid hjl
                  have hmlI : (m.length : Int) ≤ 300 := by have h9 := HML.out; have h8 := HLT.out; have h7 := HL.out.2; omega
                  have hO9 := HO8.out.keep (bel1 HBJ.out (.cells #[.int .i64 q0, .int .i64 q1] 27))
                  clear hq hwf hmi hjl
                  go_wp2_with (at_lookup; refine wpList_lookup_own_ok_int _ rfl _ _ 40 rfl 3 3 .i64 lawI mI_under int_under (zeroI _) b (N + 1) _ rfl hO9 _ _ rfl (keyOf_int_mk int_under HWF2.out.1) ?_; intro cv2 hat2 hwc2; rw [hh2]; have hcv2 : q1 = cv2 := i64_inj ((HAT2.out _).symm.trans hat2); clear hat2 hwc2)
                  go_roundw
                  case rel => exact ⟨j + 1, HJL.out, by go_num, bel1 HBJ.out _⟩
                  case measure => have := HJL.out; have h9 := HML.out; have h8 := HLT.out; have h7 := HL.out.2; simp [intOf]; omega
                · obtain rfl : j = m.length := by omega
                  go_wp2_with (fail)
                  go_roundw
                  case rel => exact ⟨n + 1, N + 1, _, ao2, cp2, m, HLT.out, by go_num, rfl, ⟨HP8.out.below HBJ.out, HNE.out, HMS.out, HML.out, HRG.out, HO8.out.keep HBJ.out, Nat.succ_le_succ HG.out.nl, HMI.out, bel2 HB8.out HBJ.out, HG.out.bb⟩⟩
                  case measure => have := HLT.out; simp [intOf]; omega
        · obtain rfl : n = z1.length := by omega
          go_wp2_with (go_at_call 8; ((with_reducible refine (ca _).mono ?_); rintro e wz ⟨rfl, hb⟩))
          go_ret
          exact ⟨rfl, bel2 HG.out.blw hb⟩

set_option maxRecDepth 100000 in
theorem lifted (os : Os) (started : os.Started) (H : Type) (enc : TypeId × Value → H) :
    ReturnsInHanded {} Try.checked os 4 .any (Rows.leafGetsSpec.pre6 enc Try.prog Try.f4 Rows.leafGetsRow.domain false) (Rows.leafGetsSpec.post enc Try.prog Try.f4 false true false false) := by
  refine returnsInHanded_of_change (C := Try.checked) own started (by kernel_rfl) Try.func4
    (ChangeSpec.witness6 (enc := enc) (C := Try.checked) false ⟨#[], #[.slice none 0 0, .slice none 0 0], []⟩ 8 (by kernel_rfl) (by kernel_rfl) (by kernel_rfl) (by kernel_rfl)) ?_
  intro W base args ds gs before hval0 hW hcnd _
  have hval : ∀ (j : Nat) t v, Try.f4.params[j]? = some t → args[j]? = some v → Value.okWide Try.prog W .any base t v := hval0
  have hW' := hW
  obtain ⟨p, q, hA0, hV, rfl, hfz, hnd⟩ := hW
  have hA : DataW.TrodAll enc Try.prog W 0 (fun _ => true) true Try.f4.params.toList args.toList ds p := hA0
  rw [Try.params4] at hA hval
  obtain ⟨v0, vs0, d0, ds0, p0, q0, hargs, rfl, rfl, h0, r0⟩ := trodAll_cons hA
  obtain ⟨v1, vs1, d1, ds1, p1, q1, rfl, rfl, rfl, h1, r1⟩ := trodAll_cons r0
  obtain ⟨rfl, rfl, rfl⟩ := trodAll_nil r1
  obtain rfl : args = #[v0, v1] := by cases args; simp_all
  obtain ⟨rfl, rfl⟩ := trodVars_none hV
  have k0 := h0
  have lt0 : ∀ x ∈ p0, x.block < W.heap.size := by obtain ⟨m, hm⟩ := k0; exact DataW.trod_lt m _ _ _ hm
  obtain ⟨b0, l0, c0, rfl⟩ := okWide_slice Try.underlying22 (hval 0 22 v0 rfl rfl)
  obtain ⟨a0, cap0, z0, e0, w0, g0⟩ := open_pairsw (enc := enc) (w := W) (v := .slice b0 l0 c0) (fuel := h0.choose) (by simpa [Value.cells] using h0.choose_spec)
  rw [e0] at hval k0 h0 hW' hval0 hA0
  have k1 := h1
  have lt1 : ∀ x ∈ p1, x.block < W.heap.size := by obtain ⟨m, hm⟩ := k1; exact DataW.trod_lt m _ _ _ hm
  obtain ⟨b1, l1, c1, rfl⟩ := okWide_slice Try.underlying39 (hval 1 39 v1 rfl rfl)
  obtain ⟨a1, cap1, z1, e1, w1⟩ := open_ops (enc := enc) (w := W) (v := .slice b1 l1 c1) (fuel := h1.choose) (by simpa [Value.cells] using h1.choose_spec)
  rw [e1] at hval k1 h1 hW' hval0 hA0
  clear hA0 hval0
  rw [e0]; rw [e1]; refine (walk a0 cap0 z0 a1 cap1 z1 W w0 g0 w1).mono fun e W' ⟨he, bel⟩ => ?_
  subst he
  exact ⟨_, rfl, _, _, _, [], _, [], hW', trodAll_mk1 (shut_bool Try.underlying4 _), (trodAll_cons_mk (Below.trod laidOut (by kernel_rfl) (of_decide_eq_true (by kernel_rfl)) k0 bel lt0) (trodAll_cons_mk (Below.trod laidOut (by kernel_rfl) (of_decide_eq_true (by kernel_rfl)) k1 bel lt1) trodAll_mk0)), rfl, bel.frame _, fun h => by cases h⟩

theorem over : Rows.leafGetsRow.holds Try.pinned (OpenSpec.ofChange Rows.leafGetsSpec) :=
  OpenClaim.holds_of_wide 4 Try.f4 rfl rfl rfl rfl rfl rfl rfl ⟨rfl, rfl, rfl, rfl, rfl⟩ rfl rfl rfl rfl rfl (by kernel_rfl) Try.func4 (by kernel_rfl)
    (of_decide_eq_true (by kernel_rfl)) (by unfold Func.isWrapper; first | (rw [if_pos (by decide +kernel)]; kernel_rfl) | (rw [if_neg (by decide +kernel)]; exact ⟨rfl, rfl⟩))
    (fun os started H enc _ => lifted os started H enc)

theorem leafGetsHolds : Rows.LeafGetsSaid := over
#print axioms leafGetsHolds
end Go.Proofs.Ytipcjkfecppanaa.leafGets
