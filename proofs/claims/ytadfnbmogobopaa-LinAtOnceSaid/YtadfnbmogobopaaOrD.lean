/- order.Ends, order.Right exactly. No condition: lemmas. -/
import Derived.Test.YtadfnbmogobopaaOrC
namespace Go.Proofs.Ytadfnbmogobopaa
open Go.RowKit
set_option linter.all false
set_option maxRecDepth 20000

theorem putsL_self : ∀ l : List Pr, Srt l → putsL l = l := rev_ind (fun _ => rfl) (fun l z ih h => by
  have h1 := List.pairwise_append.1 h
  have hk : ∀ x ∈ l, x.1 < z.1 := fun x hx => h1.2.2 x hx z (by simp)
  rw [putsL_snoc, ih h1.1, withL_srt _ _ _ h1.1, List.filter_eq_self.2 (fun x hx => by simpa using hk x hx), List.filter_eq_nil_iff.2 (fun x hx => by have := hk x hx; simp; omega)]
  simp)
def mkCs (n : Nat) : Array Value := madeCells (Value.agg #[.int .i64 0, .int .i64 0, .int .i64 0, .int .i64 0, .int .i64 0, .int .i64 0, .int .i64 0, .int .i64 0, .bool false, .int .i64 0, .int .i64 0, .int .i64 0, .slice none 0 0]).cells (n * 13)
theorem mkCs_run (n : Nat) (h : n ≤ 2000) (w : World) : (Instr.makeSlice 51 (.int .i64 (n : Int)) (.int .i64 (n : Int))).run Try.prog w = .ok (.slice (some ⟨w.heap.size, 0, none⟩) n n) (w.alloc (.cells (mkCs n) 71)) := by
  obtain ⟨i, hi, hz, hs1, hs2⟩ := info_parts infoCall
  have hr := run_make (P := Try.prog) w 51 71 i _ Try.underlying51 hi hz .i64 .i64 n n (by omega) (Int.le_refl _) (by rw [hs2]; omega) (by omega)
  rw [hs1] at hr
  simpa [mkCs] using hr
/-- Cells that hold these calls, one behind the other; there is room for n. -/
structure DV (W1 : World) (D : List ClD) (n : Nat) (vs : List Value) : Prop where
  len : vs.length = n * 13
  at_ : ∀ (i : Nat) (c : ClD), D[i]? = some c → ∃ pa pc, (∀ (j : Nat) (v : Value), (clC c pa pc)[j]? = some v → vs[i * 13 + j]? = some v) ∧ Prs W1 pa pc c.a.ps
theorem DV.made (W1 : World) (n : Nat) : DV W1 [] n (mkCs n).toList := ⟨by simp [mkCs, size_madeCells], fun i c h => by simp at h⟩
theorem DV.put {W1 : World} {D : List ClD} {n : Nat} {vs : List Value} (h : DV W1 D n vs) (hn : D.length < n) (c : ClD) (pa : Option Addr) (pc : Nat) (hp : Prs W1 pa pc c.a.ps) (k : Nat) (hk : k = D.length * 13) :
    DV W1 (D ++ [c]) n (vs.take k ++ clC c pa pc ++ vs.drop (k + (clC c pa pc).length)) := by
  subst hk
  have hl := h.len
  have hc : (clC c pa pc).length = 13 := rfl
  have ht : (vs.take (D.length * 13)).length = D.length * 13 := by rw [List.length_take]; omega
  refine ⟨?_, fun i d hd => ?_⟩
  · rw [List.length_append, List.length_append, ht, hc, List.length_drop]; omega
  · rcases Nat.lt_trichotomy i D.length with h1 | h1 | h1
    · rw [List.getElem?_append_left h1] at hd
      obtain ⟨qa, qc, h2, h3⟩ := h.at_ i d hd
      refine ⟨qa, qc, fun j v hj => ?_, h3⟩
      have hj13 : j < 13 := by have := (List.getElem?_eq_some_iff.1 hj).1; simpa [clC] using this
      rw [List.getElem?_append_left (by rw [List.length_append]; omega), List.getElem?_append_left (by omega), List.getElem?_take_of_lt (by omega)]
      exact h2 j v hj
    · subst h1
      rw [List.getElem?_append_right (Nat.le_refl _), Nat.sub_self] at hd
      cases hd
      refine ⟨pa, pc, fun j v hj => ?_, hp⟩
      have hj13 : j < 13 := by have := (List.getElem?_eq_some_iff.1 hj).1; simpa [clC] using this
      rw [List.getElem?_append_left (by rw [List.length_append]; omega), List.getElem?_append_right (by omega), ht, show D.length * 13 + j - D.length * 13 = j by omega]
      exact hj
    · rw [List.getElem?_eq_none (by rw [List.length_append, List.length_singleton]; omega)] at hd; cases hd
theorem DV.cs {W1 W : World} {D : List ClD} {n g : Nat} {vs : List Value} (h : DV W1 D n vs) (hn : D.length ≤ n) (hm : n ≤ maxLen) (hq : Bq W g vs) (hb : Below W1.heap.size W1 W) : Cs W (some ⟨g, 0, none⟩) n D :=
  ⟨hn, hm, fun i c hc => by
    obtain ⟨pa, pc, h1, h2⟩ := h.at_ i c hc
    exact ⟨g, 0, pa, pc, rfl, fun j v hj => by rw [Nat.zero_add]; exact hq.at_ _ _ (h1 j v hj), h2.below hb⟩⟩
theorem dn_take {L : List ClD} {l : List Int} {n : Nat} {x : Int} (hx : l[n]? = some x) : dn L (l.take (n + 1)) = dn L (l.take n) ++ [cAt L x] := by
  unfold dn
  rw [List.take_add_one, hx]
  simp
theorem bool_is (p : Prop) : ∃ B : Bool, B = true ↔ p := by
  by_cases h : p
  · exact ⟨true, by simp [h]⟩
  · exact ⟨false, by simp [h]⟩
/-- What Ends tells. -/
def EndIs (w : World) (R : List Pr) (B : Bool) (e : Ending) (w' : World) : Prop :=
  ∃ ao cap, e = .returned (.tuple #[.slice ao R.length cap, .bool B]) ∧ Prs w' ao cap R ∧ Below w.heap.size w w'
theorem ordR_no {m : List Pr} {N : List EvD} {l : List Int} (h : mtch N = none) : ¬ ordR m N l := fun x => by
  obtain ⟨_, s, h1, _⟩ := x
  rw [h] at h1; cases h1
theorem ordR_is {m : List Pr} {N : List EvD} {l : List Int} {s : Mt} (hm : Srt m) (h : mtch N = some s) : ordR m N l ↔ Rgt m s.l l := by
  constructor
  · rintro ⟨_, s2, h1, h2⟩
    rw [h] at h1; cases h1; exact h2
  · intro h2; exact ⟨hm, s, h, h2⟩

set_option maxRecDepth 100000 in
set_option maxHeartbeats 25600000 in
theorem oends_any (a a1 a2 : Option Addr) (cap cap1 cap2 : Nat) (m : List Pr) (N : List EvD) (l : List Int) (w : World) (hm : Prs w a cap m) (hN : Es w a1 cap1 N) (hl : RI w a2 cap2 l)
    (sm : m.length ≤ 200) (sN : N.length ≤ 300) (sp : ∀ e ∈ N, e.a.ps.length ≤ 1100000) (sl : l.length ≤ 300) (B : Bool) (hB : B = true ↔ ordR m N l) (R : List Pr) (hR : R = if B = true then endP m N l else []) :
    Calls Try.prog 26 #[.slice a m.length cap, .slice a1 N.length cap1, .slice a2 l.length cap2] w (EndIs w R B) := by
  have HM := Lib.hid hm
  have HN := Lib.hid hN
  have HL := Lib.hid hl
  have HBB := Lib.hid hB
  have HR := Lib.hid hR
  have HSP := Lib.hid sp
  have z1 := hm.1
  have z2 := hm.2.1
  have z3 := hN.1
  have z4 := hN.2.1
  have z5 := hl.1
  have z6 := hl.2.1
  unfold maxLen at z2 z4 z6
  have cl := fun W (hb : Below w.heap.size w W) B hB => lmay_any a cap m W (hm.below hb) B hB
  have cp := fun W (hb : Below w.heap.size w W) B hB => may_anyP a1 cap1 N W (hN.keep hb) sN B hB
  clear hm hN hl hB hR sp
  have no : ∀ (W : World), B = false → Below w.heap.size w W → ∀ e, e = Ending.returned (.tuple #[.slice none 0 0, .bool false]) → EndIs w R B e W := fun W hf hb e he => by
    have h2 := HR.out
    rw [hf, if_neg (by simp)] at h2
    subst h2
    exact ⟨none, 0, by rw [he, hf]; rfl, Prs.nil _, hb⟩
  have HNO := Lib.hid no
  clear no
  by_cases hs : Srt m
  rotate_left
  · have hBf : Hid (B = false) := Lib.hid (by
      cases B
      · rfl
      · exact absurd (HBB.out.1 rfl).1 hs)
    have cl1 := cl w (Below.refl _ _) false (decide_eq_false hs)
    clear cl cp hs
    go_enter Try.func26, Try.ntmps26
    go_wp2_with (go_at_call 18; ((with_reducible refine cl1.mono ?_); clear cl1; rintro e w1 ⟨rfl, hb1⟩))
    refine bodyPost_ret (v := .tuple #[.slice none 0 0, .bool false]) (by simp [results, Try.results26, go_sem]) rfl (HNO.out _ hBf.out hb1 _ rfl)
  have cl1 := cl w (Below.refl _ _) true (decide_eq_true hs)
  have HS := Lib.hid hs
  cases hmt : mtch N with
  | none =>
    have hBf : Hid (B = false) := Lib.hid (by
      cases B
      · rfl
      · exact absurd (HBB.out.1 rfl) (ordR_no hmt))
    have cp1 := fun W hb => cp W hb false (by rw [hmt]; rfl)
    clear cl cp hs hmt
    go_enter Try.func26, Try.ntmps26
    go_wp2_with (first
      | (go_at_call 18; ((with_reducible refine cl1.mono ?_); clear cl1; rintro e w1 ⟨rfl, hb1⟩; have HB1 := Lib.hid hb1; clear hb1))
      | (go_at_call 19; ((with_reducible refine (cp1 _ HB1.out).mono ?_); clear cp1; rintro e w2 ⟨rfl, hb2⟩; have HB2 := Lib.hid (pb2 HB1.out hb2); clear hb2))
      | fail)
    refine bodyPost_ret (v := .tuple #[.slice none 0 0, .bool false]) (by simp [results, Try.results26, go_sem]) rfl (HNO.out _ hBf.out HB2.out _ rfl)
  | some s =>
    have cp1 := fun W hb => cp W hb true (by rw [hmt]; rfl)
    have cc := fun W (hb : Below w.heap.size w W) => calls_any a1 cap1 N W (HN.out.keep hb) sN HSP.out s.l (by unfold callsL; rw [hmt])
    have I := minv N _ s hmt
    have hLN : s.l.length ≤ 300 := by have h1 := I.nb; have h2 := (cnt_le N N.length).1; omega
    have hOI := (ordR_is (l := l) hs hmt)
    have hEP : endP m N l = stt m (dn s.l l) l.length := by unfold endP; rw [hmt]
    obtain ⟨L, hLL⟩ : ∃ L, s.l = L := ⟨_, rfl⟩
    have HIR := Lib.hid (fun (hl2 : ∀ i ∈ l, inR s.l i) (i : Nat) (hi : i < l.length) => dn_irr I hl2 hi)
    rw [hLL] at cc hLN hOI hEP HIR
    rw [hOI] at HBB
    rw [hEP] at HR
    clear cl cp hs hmt I hOI hEP hLL
    obtain ⟨Bn, hBn⟩ := bool_is (Nms L l)
    have HBN := Lib.hid hBn
    have cn := fun ca cc' W h1 h2 => names_any ca a2 cc' cap2 L l W h1 h2 hLN sl Bn HBN.out
    clear hBn
    cases Bn
    · have hBf : Hid (B = false) := Lib.hid (by
        cases B
        · rfl
        · have h1 := HBN.out.2 (HBB.out.1 rfl).nm
          cases h1)
      go_enter Try.func26, Try.ntmps26
      go_wp2_with (first
        | (go_at_call 18; ((with_reducible refine cl1.mono ?_); clear cl1; rintro e w1 ⟨rfl, hb1⟩; have HB1 := Lib.hid hb1; clear hb1))
        | (go_at_call 19; ((with_reducible refine (cp1 _ HB1.out).mono ?_); clear cp1; rintro e w2 ⟨rfl, hb2⟩; have HB2 := Lib.hid (pb2 HB1.out hb2); clear hb2))
        | (go_at_call 17; ((with_reducible refine (cc _ HB2.out).mono ?_); clear cc; rintro e w3 ⟨ao3, cp3, rfl, hC3, hb3⟩; have HC3 := Lib.hid hC3; have HB3 := Lib.hid (pb2 HB2.out hb3); clear hb3 hC3))
        | (go_at_call 43; ((with_reducible refine (cn _ _ _ HC3.out (HL.out.below HB3.out)).mono ?_); clear cn; rintro e w4 ⟨rfl, hb4⟩; have HB4 := Lib.hid (pb2 HB3.out hb4); clear hb4))
        | fail)
      refine bodyPost_ret (v := .tuple #[.slice none 0 0, .bool false]) (by simp [results, Try.results26, go_sem]) rfl (HNO.out _ hBf.out HB4.out _ rfl)
    have HNM := Lib.hid (HBN.out.1 rfl)
    clear HBN
    have hmk : ∀ W : World, (Instr.makeSlice 51 (.int .i64 (l.length : Int)) (.int .i64 (l.length : Int))).run Try.prog W = .ok (.slice (some ⟨W.heap.size, 0, none⟩) l.length l.length) (W.alloc (.cells (mkCs l.length) 71)) := fun W => mkCs_run l.length (by omega) W
    go_enter Try.func26, Try.ntmps26
    go_wp2_with (first
      | (go_at_call 18; ((with_reducible refine cl1.mono ?_); clear cl1; rintro e w1 ⟨rfl, hb1⟩; have HB1 := Lib.hid hb1; clear hb1))
      | (go_at_call 19; ((with_reducible refine (cp1 _ HB1.out).mono ?_); clear cp1; rintro e w2 ⟨rfl, hb2⟩; have HB2 := Lib.hid (pb2 HB1.out hb2); clear hb2))
      | (go_at_call 17; ((with_reducible refine (cc _ HB2.out).mono ?_); clear cc; rintro e w3 ⟨ao3, cp3, rfl, hC3, hb3⟩; have HC3 := Lib.hid hC3; have HB3 := Lib.hid (pb2 HB2.out hb3); clear hb3 hC3))
      | (go_at_call 43; ((with_reducible refine (cn _ _ _ HC3.out (HL.out.below HB3.out)).mono ?_); clear cn; rintro e w4 ⟨rfl, hb4⟩; have HC4 := Lib.hid (HC3.out.keep hb4); have HB4 := Lib.hid (pb2 HB3.out hb4); clear hb4))
      | fail)
    have HQ5 := Lib.hid (Bq.new w4 (mkCs l.length) 71)
    have HB5 := Lib.hid (pal (w := w4) (.cells (mkCs l.length) 71))
    have HD5 := Lib.hid (DV.made w4 l.length)
    have hc3 := HC4.out.1
    have hc4 := HC4.out.2.1
    unfold maxLen at hc4
    clear hmk HC3 HB1 HB2 HB3
    generalize w4.alloc (.cells (mkCs l.length) 71) = W5 at HQ5 HB5 ⊢
    go_loopw [32] (fun i wr => ∃ (n : Nat) (vs : List Value), n ≤ l.length ∧ i = .int .i64 n ∧ Bq wr w4.heap.size vs ∧ DV w4 (dn L (l.take n)) l.length vs ∧ Below w4.heap.size w4 wr) (fun i _ => l.length - (intOf i).toNat)
    case atStart => exact ⟨0, _, Nat.zero_le _, rfl, HQ5.out, by simpa [dn] using HD5.out, HB5.out⟩
    case round =>
      clear HQ5 HB5 HD5
      obtain ⟨n, vs, hnl, rfl, hbq, hdv, hbe⟩ := hrel
      have HBQ := Lib.hid hbq
      have HDV := Lib.hid hdv
      have HBE := Lib.hid hbe
      by_cases hlt : n < l.length
      · obtain ⟨x, hx⟩ : ∃ x, l[n]? = some x := ⟨_, List.getElem?_eq_getElem hlt⟩
        obtain ⟨bi, oi, rfl, hxc⟩ := ri_at (HL.out.below (pb2 HB4.out hbe)) hx
        have HDT := Lib.hid (dn_take (L := L) hx)
        have hir := HNM.out.inr x (List.mem_of_getElem? hx)
        obtain ⟨j, rfl⟩ : ∃ j : Nat, x = (j : Int) := ⟨x.toNat, by have := hir.1; omega⟩
        have hj0 : (0 : Int) ≤ (j : Int) := Int.natCast_nonneg j
        have hjl : (j : Int) < (L.length : Int) := hir.2
        have hcm := cAt_mem hir
        rw [Int.toNat_natCast] at hcm
        obtain ⟨bd, oo, pa, pc, rfl, hca0⟩ := HC4.out.2.2 j _ hcm
        have hca := hca0.keep hbe
        have HPS := Lib.hid hca0.ps
        obtain ⟨c, hc⟩ : ∃ c, cAt L (j : Int) = c := ⟨_, rfl⟩
        rw [hc] at hca HPS HDT
        obtain ⟨c0, c1, c2, c3, c4, c5, c6, c7, c8, c9, c10, c11, c12⟩ := hca.ex
        have hn0 : (0 : Int) ≤ (n : Int) := Int.natCast_nonneg n
        have hnI : (n : Int) < (l.length : Int) := Int.ofNat_lt.2 hlt
        have hvl := hdv.len
        have hdl : (dn L (l.take n)).length = n := by rw [dn_len, List.length_take]; omega
        have HDL := Lib.hid hdl
        obtain ⟨u0, hu0⟩ : ∃ v, vs[n * 13]? = some v := ⟨_, List.getElem?_eq_getElem (by omega)⟩
        obtain ⟨u1, hu1⟩ : ∃ v, vs[n * 13 + 1]? = some v := ⟨_, List.getElem?_eq_getElem (by omega)⟩
        obtain ⟨u2, hu2⟩ : ∃ v, vs[n * 13 + 2]? = some v := ⟨_, List.getElem?_eq_getElem (by omega)⟩
        obtain ⟨u3, hu3⟩ : ∃ v, vs[n * 13 + 3]? = some v := ⟨_, List.getElem?_eq_getElem (by omega)⟩
        obtain ⟨u4, hu4⟩ : ∃ v, vs[n * 13 + 4]? = some v := ⟨_, List.getElem?_eq_getElem (by omega)⟩
        obtain ⟨u5, hu5⟩ : ∃ v, vs[n * 13 + 5]? = some v := ⟨_, List.getElem?_eq_getElem (by omega)⟩
        obtain ⟨u6, hu6⟩ : ∃ v, vs[n * 13 + 6]? = some v := ⟨_, List.getElem?_eq_getElem (by omega)⟩
        obtain ⟨u7, hu7⟩ : ∃ v, vs[n * 13 + 7]? = some v := ⟨_, List.getElem?_eq_getElem (by omega)⟩
        obtain ⟨u8, hu8⟩ : ∃ v, vs[n * 13 + 8]? = some v := ⟨_, List.getElem?_eq_getElem (by omega)⟩
        obtain ⟨u9, hu9⟩ : ∃ v, vs[n * 13 + 9]? = some v := ⟨_, List.getElem?_eq_getElem (by omega)⟩
        obtain ⟨u10, hu10⟩ : ∃ v, vs[n * 13 + 10]? = some v := ⟨_, List.getElem?_eq_getElem (by omega)⟩
        obtain ⟨u11, hu11⟩ : ∃ v, vs[n * 13 + 11]? = some v := ⟨_, List.getElem?_eq_getElem (by omega)⟩
        obtain ⟨u12, hu12⟩ : ∃ v, vs[n * 13 + 12]? = some v := ⟨_, List.getElem?_eq_getElem (by omega)⟩
        have e0 := hbq.at_ _ _ hu0
        have e1 := hbq.at_ _ _ hu1
        have e2 := hbq.at_ _ _ hu2
        have e3 := hbq.at_ _ _ hu3
        have e4 := hbq.at_ _ _ hu4
        have e5 := hbq.at_ _ _ hu5
        have e6 := hbq.at_ _ _ hu6
        have e7 := hbq.at_ _ _ hu7
        have e8 := hbq.at_ _ _ hu8
        have e9 := hbq.at_ _ _ hu9
        have e10 := hbq.at_ _ _ hu10
        have e11 := hbq.at_ _ _ hu11
        have e12 := hbq.at_ _ _ hu12
        have hfr := hbq.fr
        have HX := Lib.hid (stC_in (clC c pa pc) (n * 13) wr vs hbq (by rw [hvl]; show n * 13 + 13 ≤ _; omega))
        have HY := Lib.hid (stC_below (w0 := w4) (g := w4.heap.size) (Nat.le_refl _) (clC c pa pc) (n * 13) wr hbe)
        have HZ := Lib.hid (hdv.put (by rw [hdl]; exact hlt) c pa pc HPS.out (n * 13) (by rw [hdl]))
        clear hx hir hcm hca0 hca hc hdv hbq hbe hvl hdl hu0 hu1 hu2 hu3 hu4 hu5 hu6 hu7 hu8 hu9 hu10 hu11 hu12
        obtain ⟨t, f, g, ⟨oc, ok, oh, ov⟩, ⟨ae, ao, ak, av, an, ap⟩⟩ := c
        dsimp only at c0 c1 c2 c3 c4 c5 c6 c7 c8 c9 c10 c11 c12
        unfold clC at HX HY
        dsimp only at HX HY
        simp only [stC, Nat.add_assoc, Nat.reduceAdd] at HX HY
        go_wp2_with (fail)
        go_roundw
        case rel => exact ⟨n + 1, _, by omega, by go_num, HX.out, by rw [HDT.out]; exact HZ.out, HY.out⟩
        case measure => simp [intOf]; omega
      · obtain rfl : n = l.length := by omega
        have hD := dn_len L l
        rw [List.take_of_length_le (Nat.le_refl _)] at HDV
        have HCS := Lib.hid (HDV.out.cs (by rw [hD]; exact Nat.le_refl _) (by unfold maxLen; omega) HBQ.out HBE.out)
        have HB5 := Lib.hid (pb2 HB4.out HBE.out)
        have cw := fun W (hp : Prs W a cap m) => new_any a cap m W hp (by omega)
        rw [putsL_self m HS.out] at cw
        have hir := HIR.out HNM.out.inr
        obtain ⟨Bt, hBt⟩ := bool_is (inT (dn L l) l.length)
        have ci := fun W (hb : Below wr.heap.size wr W) => intime_any (some ⟨w4.heap.size, 0, none⟩) l.length (dn L l) W (HCS.out.keep hb) (by omega) (fun i hi => hir i (by rw [hD] at hi; exact hi)) Bt (by rw [hD]; exact hBt)
        rw [hD] at ci
        have HBT := Lib.hid hBt
        clear hbq hdv hbe hBt hir HBQ HDV
        cases Bt
        · have hBf : Hid (B = false) := Lib.hid (by
            cases B
            · rfl
            · have h1 := HBT.out.2 (HBB.out.1 rfl).tm
              cases h1)
          go_wp2_with (first
          | (go_at_call 21; ((with_reducible refine (cw _ (HM.out.below HB5.out)).mono ?_); clear cw; rintro e w6 ⟨b, rfl, hbw, hma, hb6⟩; have HBW := Lib.hid hbw; have HMA := Lib.hid hma; have HB6 := Lib.hid hb6; clear hma hb6))
          | (go_at_call 44; ((with_reducible refine (ci _ HB6.out).mono ?_); clear ci; rintro e w7 ⟨rfl, hb7⟩; have HMA7 := Lib.hid (HMA.out.below hb7); have HB7 := Lib.hid (pb2 HB6.out hb7); have HS7 := Lib.hid (show ∀ j, (j < wr.heap.size ∨ j = b) → j < w7.heap.size from fun j hj => (by have h1 := HMA7.out.lt; have h2 := HB7.out.size; rcases hj with h | h <;> omega)); clear hb7))
          | fail)
          refine bodyPost_ret (v := .tuple #[.slice none 0 0, .bool false]) (by simp [results, Try.results26, go_sem]) rfl (HNO.out _ hBf.out (pb2 HB5.out HB7.out) _ rfl)
        obtain ⟨Bl, hBl⟩ := bool_is (tls m (dn L l) l.length)
        have ct := fun b S (W : World) (hb : Below wr.heap.size wr W) (hbw : wr.heap.size ≤ b) hM hS => tells_any wr b S m (some ⟨w4.heap.size, 0, none⟩) l.length (dn L l) W hb HCS.out hbw hM hS (by omega) (by omega) Bl (by rw [hD]; exact hBl)
        rw [hD] at ct
        have HBL := Lib.hid hBl
        have HLE : Hid ((stt m (dn L l) l.length).length ≤ 1100000) := Lib.hid (by have := stt_le m (dn L l) l.length; omega)
        clear hBl
        cases Bl
        · have hBf : Hid (B = false) := Lib.hid (by
            cases B
            · rfl
            · have h1 := HBL.out.2 (HBB.out.1 rfl).tl
              cases h1)
          go_wp2_with (first
          | (go_at_call 21; ((with_reducible refine (cw _ (HM.out.below HB5.out)).mono ?_); clear cw; rintro e w6 ⟨b, rfl, hbw, hma, hb6⟩; have HBW := Lib.hid hbw; have HMA := Lib.hid hma; have HB6 := Lib.hid hb6; clear hma hb6))
          | (go_at_call 44; ((with_reducible refine (ci _ HB6.out).mono ?_); clear ci; rintro e w7 ⟨rfl, hb7⟩; have HMA7 := Lib.hid (HMA.out.below hb7); have HB7 := Lib.hid (pb2 HB6.out hb7); have HS7 := Lib.hid (show ∀ j, (j < wr.heap.size ∨ j = b) → j < w7.heap.size from fun j hj => (by have h1 := HMA7.out.lt; have h2 := HB7.out.size; rcases hj with h | h <;> omega)); clear hb7))
          | (go_at_call 45; ((with_reducible refine (ct _ _ _ HB7.out HBW.out HMA7.out HS7.out).mono ?_); clear ct; rintro e w8 ⟨rfl, ho8, hm8⟩; have HO8 := Lib.hid ho8; have HM8 := Lib.hid hm8; clear ho8 hm8))
          | fail)
          refine bodyPost_ret (v := .tuple #[.slice none 0 0, .bool false]) (by simp [results, Try.results26, go_sem]) rfl (HNO.out _ hBf.out (pb2 HB5.out (Only.upto HB7.out HO8.out HBW.out)) _ rfl)
        · have hBt : Hid (B = true) := Lib.hid (HBB.out.2 ⟨HNM.out, HBT.out.1 rfl, HBL.out.1 rfl⟩)
          have hRt : Hid (R = stt m (dn L l) l.length) := Lib.hid (by rw [HR.out, if_pos hBt.out])
          go_wp2_with (first
          | (go_at_call 21; ((with_reducible refine (cw _ (HM.out.below HB5.out)).mono ?_); clear cw; rintro e w6 ⟨b, rfl, hbw, hma, hb6⟩; have HBW := Lib.hid hbw; have HMA := Lib.hid hma; have HB6 := Lib.hid hb6; clear hma hb6))
          | (go_at_call 44; ((with_reducible refine (ci _ HB6.out).mono ?_); clear ci; rintro e w7 ⟨rfl, hb7⟩; have HMA7 := Lib.hid (HMA.out.below hb7); have HB7 := Lib.hid (pb2 HB6.out hb7); have HS7 := Lib.hid (show ∀ j, (j < wr.heap.size ∨ j = b) → j < w7.heap.size from fun j hj => (by have h1 := HMA7.out.lt; have h2 := HB7.out.size; rcases hj with h | h <;> omega)); clear hb7))
          | (go_at_call 45; ((with_reducible refine (ct _ _ _ HB7.out HBW.out HMA7.out HS7.out).mono ?_); clear ct; rintro e w8 ⟨rfl, ho8, hm8⟩; have HO8 := Lib.hid ho8; have HM8 := Lib.hid hm8; clear ho8 hm8))
          | (go_at_call 46; ((with_reducible refine (mpairs_any _ _ _ _ (HM8.out trivial) HLE.out).mono ?_); rintro e w9 ⟨ao9, cp9, rfl, hr9, hb9⟩; have HR9 := Lib.hid hr9; have HB9 := Lib.hid hb9; clear hr9 hb9))
          | fail)
          refine bodyPost_ret (v := .tuple #[.slice ao9 (stt m (dn L l) l.length).length cp9, .bool true]) (by simp [results, Try.results26, go_sem]) rfl ?_
          exact ⟨ao9, cp9, by rw [hRt.out, hBt.out], by rw [hRt.out]; exact HR9.out.prs rfl, pb2 (pb2 HB5.out (Only.upto HB7.out HO8.out HBW.out)) HB9.out⟩

set_option maxRecDepth 100000 in
set_option maxHeartbeats 6400000 in
theorem oright_any (a a1 a2 : Option Addr) (cap cap1 cap2 : Nat) (m : List Pr) (N : List EvD) (l : List Int) (w : World) (hm : Prs w a cap m) (hN : Es w a1 cap1 N) (hl : RI w a2 cap2 l)
    (sm : m.length ≤ 200) (sN : N.length ≤ 300) (sp : ∀ e ∈ N, e.a.ps.length ≤ 1100000) (sl : l.length ≤ 300) (B : Bool) (hB : B = true ↔ ordR m N l) :
    Calls Try.prog 16 #[.slice a m.length cap, .slice a1 N.length cap1, .slice a2 l.length cap2] w fun e w' => e = .returned (.bool B) ∧ Below w.heap.size w w' := by
  have c := oends_any a a1 a2 cap cap1 cap2 m N l w hm hN hl sm sN sp sl B hB _ rfl
  clear hm hN hl sm sN sp sl hB
  generalize (if B = true then endP m N l else []) = R at c
  go_enter Try.func16, Try.ntmps16
  go_wp2_with (go_at_call 26; ((with_reducible refine c.mono ?_); clear c; rintro e w2 ⟨ao, cp, rfl, -, hb2⟩))
  go_ret
  exact ⟨by simp, hb2⟩

end Go.Proofs.Ytadfnbmogobopaa
