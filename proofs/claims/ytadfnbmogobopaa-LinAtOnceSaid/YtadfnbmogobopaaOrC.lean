/- order.inTime, order.tells exactly. No condition: lemmas. -/
import Derived.Test.YtadfnbmogobopaaOrB
namespace Go.Proofs.Ytadfnbmogobopaa
open Go.RowKit
set_option linter.all false
set_option maxRecDepth 20000

/-- Cells of a block written one after the other. -/
def stC (W : World) (g : Nat) : Nat → List Value → World
  | _, [] => W
  | k, v :: l => stC (W.setCell ⟨g, k, none⟩ v) g (k + 1) l
theorem stC_other {b g : Nat} {vs : List Value} (hne : g ≠ b) : ∀ (l : List Value) (k : Nat) (W : World), Bq W b vs → Bq (stC W g k l) b vs := by
  intro l
  induction l with
  | nil => intro k W h; exact h
  | cons v l ih => intro k W h; exact ih _ _ (h.other v hne)
theorem stC_in {g : Nat} : ∀ (l : List Value) (k : Nat) (W : World) (vs : List Value), Bq W g vs → k + l.length ≤ vs.length → Bq (stC W g k l) g (vs.take k ++ l ++ vs.drop (k + l.length)) := by
  intro l
  induction l with
  | nil =>
    intro k W vs h e
    unfold stC
    simpa using h
  | cons v l ih =>
    intro k W vs h e
    simp only [List.length_cons] at e
    have := ih (k + 1) _ _ (h.set k v (by omega)) (by rw [List.length_set]; omega)
    have e2 : (vs.set k v).take (k + 1) ++ l ++ (vs.set k v).drop (k + 1 + l.length) = vs.take k ++ (v :: l) ++ vs.drop (k + (v :: l).length) := by
      rw [List.take_add_one, List.getElem?_set_self (by omega), List.take_set_of_le (Nat.le_refl _), List.drop_set_of_lt (by omega), show k + (v :: l).length = k + 1 + l.length by simp only [List.length_cons]; omega]
      simp
    rw [e2] at this
    exact this
theorem stC_only {g : Nat} : ∀ (l : List Value) (k : Nat) (W : World), Only (fun j => j = g) W (stC W g k l)
  | [], k, W => Only.refl _ _
  | v :: l, k, W => ((Only.refl (fun k => k = g) W).setCell (p := ⟨g, k, none⟩) (.inl rfl) v).trans (stC_only l (k + 1) _) (fun k hk _ => hk)
theorem stC_below {w0 : World} {g : Nat} (hg : w0.heap.size ≤ g) : ∀ (l : List Value) (k : Nat) (W : World), Below w0.heap.size w0 W → Below w0.heap.size w0 (stC W g k l) := by
  intro l
  induction l with
  | nil => intro k W h; exact h
  | cons v l ih => intro k W h; exact ih _ _ (Below.setCell h hg _)

set_option maxRecDepth 100000 in
set_option maxHeartbeats 12800000 in
theorem intime_any (a : Option Addr) (cap : Nat) (D : List ClD) (w : World) (hD : Cs w a cap D) (hn : D.length ≤ 300) (hi : ∀ i, i < D.length → ¬ bef (D.getD i zCl) (D.getD i zCl)) (B : Bool) (hB : B = true ↔ inT D D.length) :
    Calls Try.prog 44 #[.slice a D.length cap] w fun e w' => e = .returned (.bool B) ∧ Below w.heap.size w w' := by
  have HC := Lib.hid hD
  have HBB := Lib.hid hB
  have HIR := Lib.hid hi
  have hc1 := hD.1
  have hc2 := hD.2.1
  unfold maxLen at hc2
  have HZ := Lib.hid (Bq.new w #[.int .i64 0, .int .i64 0, .int .i64 0, .int .i64 0, .int .i64 0, .int .i64 0, .int .i64 0, .int .i64 0, .bool false, .int .i64 0, .int .i64 0, .int .i64 0, .slice none 0 0] 71)
  have HB0 := Lib.hid (pal (w := w) (.cells #[.int .i64 0, .int .i64 0, .int .i64 0, .int .i64 0, .int .i64 0, .int .i64 0, .int .i64 0, .int .i64 0, .bool false, .int .i64 0, .int .i64 0, .int .i64 0, .slice none 0 0] 71))
  clear hD hB hi
  go_enter Try.func44, Try.ntmps44
  go_wp2_with (fail)
  generalize w.alloc (.cells #[.int .i64 0, .int .i64 0, .int .i64 0, .int .i64 0, .int .i64 0, .int .i64 0, .int .i64 0, .int .i64 0, .bool false, .int .i64 0, .int .i64 0, .int .i64 0, .slice none 0 0] 71) = W1 at HZ HB0 ⊢
  go_loopw [8] (fun i wr => ∃ (n : Nat) (m : ClD) (pa : Option Addr) (pc : Nat), n ≤ D.length ∧ i = .int .i64 n ∧ inT D n ∧ Lat D n m ∧ Bq wr w.heap.size (clC m pa pc) ∧ Below w.heap.size w wr) (fun i _ => D.length - (intOf i).toNat)
  case atStart => exact ⟨0, zCl, none, 0, Nat.zero_le _, rfl, fun i j hi hj => by omega, Lat.nil D, HZ.out, HB0.out⟩
  case round =>
    clear HZ HB0
    obtain ⟨n, k, pa', pc', hnl, rfl, hit, hla, hbq, hbe⟩ := hrel
    have HIT := Lib.hid hit
    have HLA := Lib.hid hla
    have HBQ := Lib.hid hbq
    have HBE := Lib.hid hbe
    clear hit hla hbq hbe
    by_cases hlt : n < D.length
    · have HK := HBE.out
      obtain ⟨m, hm⟩ : ∃ m, D[n]? = some m := ⟨_, List.getElem?_eq_getElem hlt⟩
      obtain ⟨bd, oo, pa, pc, rfl, hca⟩ := (HC.out.keep HK).2.2 n m hm
      obtain ⟨c0, c1, c2, c3, c4, c5, c6, c7, c8, c9, c10, c11, c12⟩ := hca.ex
      have hn0 : (0 : Int) ≤ (n : Int) := Int.natCast_nonneg n
      have hnI : (n : Int) < (D.length : Int) := Int.ofNat_lt.2 hlt
      have hgd : D.getD n zCl = m := by rw [List.getD_eq_getElem?_getD, hm]; rfl
      have HGD := Lib.hid hgd
      have HM1 := Lib.hid HLA.out.more
      rw [hgd] at HM1
      have hgw := HBQ.out.lt
      have hne1 : ¬ wr.heap.size = w.heap.size := by omega
      have hne2 : ¬ w.heap.size = wr.heap.size := by omega
      clear hm hca hgd HK
      by_cases hf : k.f < m.f
      · -- it began last
        rw [if_pos hf] at HM1
        have HST := Lib.hid (HM1.out.step (HIR.out n hlt) HIT.out)
        rw [HGD.out] at HST
        obtain ⟨E, hE⟩ : ∃ E : Bool, decide (bef m m) = E := ⟨_, rfl⟩
        have cb := fun W => bef_any m m pa pa pc pc W E hE
        have HE := Lib.hid hE
        clear hE HLA
        obtain ⟨t, f, g, ⟨oc, ok, oh, ov⟩, ⟨ae, ao, ak, av, an, ap⟩⟩ := m
        obtain ⟨t', f', g', ⟨oc', ok', oh', ov'⟩, ⟨ae', ao', ak', av', an', ap'⟩⟩ := k
        unfold clV at cb
        unfold clC at HBQ
        dsimp only at c0 c1 c2 c3 c4 c5 c6 c7 c8 c9 c10 c11 c12 cb hf HBQ
        have e0 := HBQ.out.at_ 0 _ rfl
        have e1 := HBQ.out.at_ 1 _ rfl
        have e2 := HBQ.out.at_ 2 _ rfl
        have e3 := HBQ.out.at_ 3 _ rfl
        have e4 := HBQ.out.at_ 4 _ rfl
        have e5 := HBQ.out.at_ 5 _ rfl
        have e6 := HBQ.out.at_ 6 _ rfl
        have e7 := HBQ.out.at_ 7 _ rfl
        have e8 := HBQ.out.at_ 8 _ rfl
        have e9 := HBQ.out.at_ 9 _ rfl
        have e10 := HBQ.out.at_ 10 _ rfl
        have e11 := HBQ.out.at_ 11 _ rfl
        have e12 := HBQ.out.at_ 12 _ rfl
        have hfr := HBQ.out.fr
        have HBA := Lib.hid (pal (w := wr) (.cells #[.int .i64 t, .int .i64 f, .int .i64 g, .int .i64 oc, .int .i64 ok, .int .i64 oh, .int .i64 ov, .int .i64 ae, .bool ao, .int .i64 ak, .int .i64 av, .int .i64 an, .slice pa ap.length pc] 71))
        have hX := stC_in (g := w.heap.size) [.int .i64 t, .int .i64 f, .int .i64 g, .int .i64 oc, .int .i64 ok, .int .i64 oh, .int .i64 ov, .int .i64 ae, .bool ao, .int .i64 ak, .int .i64 av, .int .i64 an, .slice pa ap.length pc] 0 _ _ HBQ.out (Nat.le_refl _)
        have hY := stC_below (w0 := w) (g := w.heap.size) (Nat.le_refl _) [.int .i64 t, .int .i64 f, .int .i64 g, .int .i64 oc, .int .i64 ok, .int .i64 oh, .int .i64 ov, .int .i64 ae, .bool ao, .int .i64 ak, .int .i64 av, .int .i64 an, .slice pa ap.length pc] 0 _ HBE.out
        simp only [stC, Nat.zero_add, Nat.reduceAdd, List.take_zero, List.nil_append, List.length_cons, List.length_nil, List.drop_succ_cons, List.drop_nil, List.append_nil] at hX hY
        have HX := Lib.hid (hX.past (.cells #[.int .i64 t, .int .i64 f, .int .i64 g, .int .i64 oc, .int .i64 ok, .int .i64 oh, .int .i64 ov, .int .i64 ae, .bool ao, .int .i64 ak, .int .i64 av, .int .i64 an, .slice pa ap.length pc] 71))
        have HY := Lib.hid (pb1 hY (.cells #[.int .i64 t, .int .i64 f, .int .i64 g, .int .i64 oc, .int .i64 ok, .int .i64 oh, .int .i64 ov, .int .i64 ae, .bool ao, .int .i64 ak, .int .i64 av, .int .i64 an, .slice pa ap.length pc] 71))
        clear hX hY
        cases E
        · go_wp2_with (go_at_call 49; ((with_reducible refine (cb _).mono ?_); clear cb; rintro e Y ⟨rfl, hbY⟩))
          have HQ := Lib.hid (HX.out.keep hbY)
          have HB := Lib.hid (pb2 HY.out hbY)
          clear hbY
          go_roundw
          case rel => exact ⟨n + 1, (⟨t, f, g, ⟨oc, ok, oh, ov⟩, ⟨ae, ao, ak, av, an, ap⟩⟩ : ClD), pa, pc, by omega, by go_num, HST.out.2 (of_decide_eq_false HE.out), HM1.out, HQ.out, HB.out⟩
          case measure => simp [intOf]; omega
        · have hBf : Hid (B = false) := Lib.hid (by
            cases B
            · rfl
            · exact absurd (of_decide_eq_true HE.out) (HST.out.1 (fun i j hi hj => HBB.out.1 rfl i j hi (by omega))))
          go_wp2_with (go_at_call 49; ((with_reducible refine (cb _).mono ?_); clear cb; rintro e Y ⟨rfl, hbY⟩))
          go_ret
          exact ⟨by rw [hBf.out]; rfl, pb2 HY.out hbY⟩
      · rw [if_neg hf] at HM1
        have HST := Lib.hid (HM1.out.step (HIR.out n hlt) HIT.out)
        rw [HGD.out] at HST
        obtain ⟨E, hE⟩ : ∃ E : Bool, decide (bef m k) = E := ⟨_, rfl⟩
        have cb := fun W => bef_any m k pa pa' pc pc' W E hE
        have HE := Lib.hid hE
        clear hE HLA
        obtain ⟨t, f, g, ⟨oc, ok, oh, ov⟩, ⟨ae, ao, ak, av, an, ap⟩⟩ := m
        obtain ⟨t', f', g', ⟨oc', ok', oh', ov'⟩, ⟨ae', ao', ak', av', an', ap'⟩⟩ := k
        unfold clV at cb
        unfold clC at HBQ
        dsimp only at c0 c1 c2 c3 c4 c5 c6 c7 c8 c9 c10 c11 c12 cb hf HBQ
        have e0 := HBQ.out.at_ 0 _ rfl
        have e1 := HBQ.out.at_ 1 _ rfl
        have e2 := HBQ.out.at_ 2 _ rfl
        have e3 := HBQ.out.at_ 3 _ rfl
        have e4 := HBQ.out.at_ 4 _ rfl
        have e5 := HBQ.out.at_ 5 _ rfl
        have e6 := HBQ.out.at_ 6 _ rfl
        have e7 := HBQ.out.at_ 7 _ rfl
        have e8 := HBQ.out.at_ 8 _ rfl
        have e9 := HBQ.out.at_ 9 _ rfl
        have e10 := HBQ.out.at_ 10 _ rfl
        have e11 := HBQ.out.at_ 11 _ rfl
        have e12 := HBQ.out.at_ 12 _ rfl
        have hf2 : decide (f' < f) = false := decide_eq_false hf
        have HBA := Lib.hid (pal (w := wr) (.cells #[.int .i64 t, .int .i64 f, .int .i64 g, .int .i64 oc, .int .i64 ok, .int .i64 oh, .int .i64 ov, .int .i64 ae, .bool ao, .int .i64 ak, .int .i64 av, .int .i64 an, .slice pa ap.length pc] 71))
        have HBQ2 := Lib.hid (HBQ.out.keep HBA.out)
        have HY := Lib.hid (pb2 HBE.out HBA.out)
        cases E
        · go_wp2_with (go_at_call 49; ((with_reducible refine (cb _).mono ?_); clear cb; rintro e Y ⟨rfl, hbY⟩))
          have HQ := Lib.hid (HBQ2.out.keep hbY)
          have HB := Lib.hid (pb2 HY.out hbY)
          clear hbY
          go_roundw
          case rel => exact ⟨n + 1, (⟨t', f', g', ⟨oc', ok', oh', ov'⟩, ⟨ae', ao', ak', av', an', ap'⟩⟩ : ClD), pa', pc', by omega, by go_num, HST.out.2 (of_decide_eq_false HE.out), HM1.out, HQ.out, HB.out⟩
          case measure => simp [intOf]; omega
        · have hBf : Hid (B = false) := Lib.hid (by
            cases B
            · rfl
            · exact absurd (of_decide_eq_true HE.out) (HST.out.1 (fun i j hi hj => HBB.out.1 rfl i j hi (by omega))))
          go_wp2_with (go_at_call 49; ((with_reducible refine (cb _).mono ?_); clear cb; rintro e Y ⟨rfl, hbY⟩))
          go_ret
          exact ⟨by rw [hBf.out]; rfl, pb2 HY.out hbY⟩
    · obtain rfl : n = D.length := by omega
      have hBt : Hid (B = true) := Lib.hid (HBB.out.2 HIT.out)
      go_wp2_with (fail)
      go_ret
      exact ⟨by rw [hBt.out]; rfl, HBE.out⟩

theorem Only.upto {w1 w wr : World} {b : Nat} (h : Below w1.heap.size w1 w) (o : Only (fun k => k = b) w wr) (hb : w1.heap.size ≤ b) : Below w1.heap.size w1 wr := h.trans (o.below (fun i hi => by have e2 : i = b := hi; omega) h.size)
set_option maxRecDepth 100000 in
set_option maxHeartbeats 12800000 in
theorem tells_any (w1 : World) (b : Nat) (S : Nat → Prop) (L : List Pr) (a : Option Addr) (cap : Nat) (D : List ClD) (w : World) (hw : Below w1.heap.size w1 w) (hD : Cs w1 a cap D) (hb : w1.heap.size ≤ b) (h : MapAt w S b L) (hS : ∀ j, S j → j < w.heap.size)
    (hn : D.length ≤ 300) (hl : L.length ≤ 1000) (B : Bool) (hB : B = true ↔ tls L D D.length) :
    Calls Try.prog 45 #[.pointer (some ⟨b, 0, none⟩), .slice a D.length cap] w fun e w' => e = .returned (.bool B) ∧ Only (fun k => k = b) w w' ∧ (B = true → MapAt w' S b (stt L D D.length)) := by
  have HC := Lib.hid hD
  have HW := Lib.hid hw
  have HBB := Lib.hid hB
  have HSS := Lib.hid hS
  have HM0 := Lib.hid h
  have hc1 := hD.1
  have hc2 := hD.2.1
  have hbl := h.lt
  unfold maxLen at hc2
  clear hD hw hB hS h
  go_enter Try.func45, Try.ntmps45
  go_wp2_with (fail)
  go_loopw [10] (fun i wr => ∃ n : Nat, n ≤ D.length ∧ i = .int .i64 n ∧ tls L D n ∧ MapAt wr S b (stt L D n) ∧ Only (fun k => k = b) w wr) (fun i _ => D.length - (intOf i).toNat)
  case atStart => exact ⟨0, Nat.zero_le _, rfl, fun i hi => by omega, HM0.out, Only.refl _ _⟩
  case round =>
    clear HM0
    obtain ⟨n, hnl, rfl, htl, hma, hon⟩ := hrel
    have HTL := Lib.hid htl
    have HMA := Lib.hid hma
    have HON := Lib.hid hon
    clear htl hma hon
    by_cases hlt : n < D.length
    · have HK := Only.upto HW.out HON.out hb
      obtain ⟨m, hm⟩ : ∃ m, D[n]? = some m := ⟨_, List.getElem?_eq_getElem hlt⟩
      obtain ⟨bd, oo, pa, pc, rfl, hca⟩ := (HC.out.keep HK).2.2 n m hm
      obtain ⟨c0, c1, c2, c3, c4, c5, c6, c7, c8, c9, c10, c11, c12⟩ := hca.ex
      have hn0 : (0 : Int) ≤ (n : Int) := Int.natCast_nonneg n
      have hnI : (n : Int) < (D.length : Int) := Int.ofNat_lt.2 hlt
      have hgd : D.getD n zCl = m := by rw [List.getD_eq_getElem?_getD, hm]; rfl
      have HGD := Lib.hid hgd
      have HSZ := HON.out.size
      have hne1 : ¬ wr.heap.size = b := by omega
      have hps1 : Prs w1 pa pc m.a.ps := by
        obtain ⟨b', o', pa2, pc2, e1, hc⟩ := HC.out.2.2 n m hm
        cases e1
        have e2 := (hc.keep HK).at_ 12 _ rfl
        have e3 := hca.at_ 12 _ rfl
        rw [e2] at e3
        simp only [Option.some.injEq, Value.slice.injEq, true_and] at e3
        obtain ⟨rfl, rfl⟩ := e3
        exact hc.ps
      have ba := pal (w := wr) (.cells (clC m pa pc).toArray 71)
      have hq1 := Bq.new wr (clC m pa pc).toArray 71
      have hlen : (stt L D n).length ≤ 1150000 := by have := stt_le L D n; omega
      have cd := mdo_any b S (stt L D n) m.o.c m.o.k m.o.h m.o.v _ (HMA.out.below ba) (fun j hj => by have h1 := HSS.out j hj; have h2 := ba.size; omega) hlen
      have HNX : Hid (stt L D (n + 1) = doP (stt L D n) m.o.c m.o.k m.o.v) := Lib.hid (by rw [← hgd]; rfl)
      have HTE : Hid (tel L D n ↔ (0 ≤ m.g → doA (stt L D n) m.o.c m.o.k m.o.h = m.a)) := Lib.hid (by unfold tel; rw [hgd])
      have HBA := Lib.hid ba
      clear hm hca hgd HK ba hlen
      by_cases hg : 0 ≤ m.g
      · have cr := fun W => oret_any m pa pc W true (decide_eq_true hg)
        have HG := Lib.hid hg
        unfold MDoIs Ad.val at cd
        generalize hAA : doA (stt L D n) m.o.c m.o.k m.o.h = A at cd HTE
        generalize hPP : doP (stt L D n) m.o.c m.o.k m.o.v = R at cd HNX
        obtain ⟨E, hE⟩ : ∃ E : Bool, decide (AdEq A m.a) = E := ⟨_, rfl⟩
        have cs := fun aa ca W h1 h2 => lsame_ans A m.a aa pa ca pc W h1 h2 E hE
        have HE := Lib.hid hE
        have HPS := Lib.hid (show ∀ W, Only (fun k => k = b) (wr.alloc (.cells (clC m pa pc).toArray 71)) W → Prs W pa pc m.a.ps from fun W o => hps1.below (Only.upto (bel2 (Only.upto HW.out HON.out hb) HBA.out) o hb))
        clear hE hps1 hAA hPP hg
        have HTE2 := Lib.hid (show tel L D n ↔ E = true from HTE.out.trans (by rw [← HE.out]; exact ⟨fun h => decide_eq_true (by rw [h HG.out]; exact AdEq.refl _), fun h _ => by
          obtain ⟨h1, h2, ⟨h3, h4⟩, h5, h6⟩ := of_decide_eq_true h
          cases A
          cases hm : m.a
          rw [hm] at h1 h2 h3 h4 h5 h6
          simp only at h1 h2 h3 h4 h5 h6
          subst h1 h2 h3 h4 h5 h6
          rfl⟩))
        clear HTE HE HG HGD
        have HQ1 := Lib.hid hq1
        clear hq1
        obtain ⟨t, f, g, ⟨oc, ok, oh, ov⟩, ⟨ae, ao, ak, av, an, ap⟩⟩ := m
        unfold clV at cr
        unfold clC at HQ1 HBA HPS cd
        unfold Ad.val at cs
        dsimp only at c0 c1 c2 c3 c4 c5 c6 c7 c8 c9 c10 c11 c12 cr cs cd HQ1 HBA HPS
        cases E
        · have hBf : Hid (B = false) := Lib.hid (by
            cases B
            · rfl
            · have h1 := HTE2.out.1 (HBB.out.1 rfl n hlt)
              cases h1)
          go_wp2_with (first
          | (go_at_call 34; ((with_reducible refine cd.mono ?_); clear cd; rintro e w2 ⟨aa, ca, rfl, hM2, hR2, hO2⟩; have HM2 := Lib.hid hM2; have HR2 := Lib.hid (hR2.prs rfl); have HO2 := Lib.hid hO2; have HQ2 := Lib.hid (HQ1.out.only hO2 (fun e => hne1 e)); clear hM2 hR2 hO2; have hlw := HQ2.out.lt; have hnz1 : ¬ wr.heap.size = w2.heap.size := (by omega); have hnz2 : ¬ w2.heap.size = wr.heap.size := (by omega); have q0 := HQ2.out.at_ 0 _ rfl; have q1 := HQ2.out.at_ 1 _ rfl; have q2 := HQ2.out.at_ 2 _ rfl; have q3 := HQ2.out.at_ 3 _ rfl; have q4 := HQ2.out.at_ 4 _ rfl; have q5 := HQ2.out.at_ 5 _ rfl; have q6 := HQ2.out.at_ 6 _ rfl; have q7 := HQ2.out.at_ 7 _ rfl; have q8 := HQ2.out.at_ 8 _ rfl; have q9 := HQ2.out.at_ 9 _ rfl; have q10 := HQ2.out.at_ 10 _ rfl; have q11 := HQ2.out.at_ 11 _ rfl; have q12 := HQ2.out.at_ 12 _ rfl))
          | (go_at_call 54; ((with_reducible refine (cr _).mono ?_); clear cr; rintro e w3 ⟨rfl, hb3⟩; have HB3 := Lib.hid hb3; have HQ3 := Lib.hid ((HQ2.out.past _).keep hb3); have HA3 := Lib.hid ((Bq.new _ _ _).keep hb3); clear hb3 q0 q1 q2 q3 q4 q5 q6 q7 q8 q9 q10 q11 q12; have q0 := HQ3.out.at_ 0 _ rfl; have q1 := HQ3.out.at_ 1 _ rfl; have q2 := HQ3.out.at_ 2 _ rfl; have q3 := HQ3.out.at_ 3 _ rfl; have q4 := HQ3.out.at_ 4 _ rfl; have q5 := HQ3.out.at_ 5 _ rfl; have q6 := HQ3.out.at_ 6 _ rfl; have q7 := HQ3.out.at_ 7 _ rfl; have q8 := HQ3.out.at_ 8 _ rfl; have q9 := HQ3.out.at_ 9 _ rfl; have q10 := HQ3.out.at_ 10 _ rfl; have q11 := HQ3.out.at_ 11 _ rfl; have q12 := HQ3.out.at_ 12 _ rfl; have z0 := HA3.out.at_ 0 _ rfl; have z1 := HA3.out.at_ 1 _ rfl; have z2 := HA3.out.at_ 2 _ rfl; have z3 := HA3.out.at_ 3 _ rfl; have z4 := HA3.out.at_ 4 _ rfl; have z5 := HA3.out.at_ 5 _ rfl))
          | (go_at_call 36; ((with_reducible refine (cs _ _ _ ((HR2.out.below (pal _)).below HB3.out) (((HPS.out _ HO2.out).below (pal _)).below HB3.out)).mono ?_); clear cs; rintro e w4 ⟨rfl, hb4⟩; have HB4 := Lib.hid hb4; clear hb4))
          | fail)
          go_ret
          have HO := Lib.hid (((HON.out.trans (Only.ofBelow (S := fun k => k = b) HBA.out) (fun k hk _ => hk)).trans HO2.out (fun k hk _ => hk)).trans (Only.ofBelow (S := fun k => k = b) (pb2 (pb2 (pal _) HB3.out) HB4.out)) (fun k hk _ => hk))
          exact ⟨by rw [hBf.out]; rfl, HO.out, fun h => by rw [hBf.out] at h; cases h⟩
        · go_wp2_with (first
          | (go_at_call 34; ((with_reducible refine cd.mono ?_); clear cd; rintro e w2 ⟨aa, ca, rfl, hM2, hR2, hO2⟩; have HM2 := Lib.hid hM2; have HR2 := Lib.hid (hR2.prs rfl); have HO2 := Lib.hid hO2; have HQ2 := Lib.hid (HQ1.out.only hO2 (fun e => hne1 e)); clear hM2 hR2 hO2; have hlw := HQ2.out.lt; have hnz1 : ¬ wr.heap.size = w2.heap.size := (by omega); have hnz2 : ¬ w2.heap.size = wr.heap.size := (by omega); have q0 := HQ2.out.at_ 0 _ rfl; have q1 := HQ2.out.at_ 1 _ rfl; have q2 := HQ2.out.at_ 2 _ rfl; have q3 := HQ2.out.at_ 3 _ rfl; have q4 := HQ2.out.at_ 4 _ rfl; have q5 := HQ2.out.at_ 5 _ rfl; have q6 := HQ2.out.at_ 6 _ rfl; have q7 := HQ2.out.at_ 7 _ rfl; have q8 := HQ2.out.at_ 8 _ rfl; have q9 := HQ2.out.at_ 9 _ rfl; have q10 := HQ2.out.at_ 10 _ rfl; have q11 := HQ2.out.at_ 11 _ rfl; have q12 := HQ2.out.at_ 12 _ rfl))
          | (go_at_call 54; ((with_reducible refine (cr _).mono ?_); clear cr; rintro e w3 ⟨rfl, hb3⟩; have HB3 := Lib.hid hb3; have HQ3 := Lib.hid ((HQ2.out.past _).keep hb3); have HA3 := Lib.hid ((Bq.new _ _ _).keep hb3); clear hb3 q0 q1 q2 q3 q4 q5 q6 q7 q8 q9 q10 q11 q12; have q0 := HQ3.out.at_ 0 _ rfl; have q1 := HQ3.out.at_ 1 _ rfl; have q2 := HQ3.out.at_ 2 _ rfl; have q3 := HQ3.out.at_ 3 _ rfl; have q4 := HQ3.out.at_ 4 _ rfl; have q5 := HQ3.out.at_ 5 _ rfl; have q6 := HQ3.out.at_ 6 _ rfl; have q7 := HQ3.out.at_ 7 _ rfl; have q8 := HQ3.out.at_ 8 _ rfl; have q9 := HQ3.out.at_ 9 _ rfl; have q10 := HQ3.out.at_ 10 _ rfl; have q11 := HQ3.out.at_ 11 _ rfl; have q12 := HQ3.out.at_ 12 _ rfl; have z0 := HA3.out.at_ 0 _ rfl; have z1 := HA3.out.at_ 1 _ rfl; have z2 := HA3.out.at_ 2 _ rfl; have z3 := HA3.out.at_ 3 _ rfl; have z4 := HA3.out.at_ 4 _ rfl; have z5 := HA3.out.at_ 5 _ rfl))
          | (go_at_call 36; ((with_reducible refine (cs _ _ _ ((HR2.out.below (pal _)).below HB3.out) (((HPS.out _ HO2.out).below (pal _)).below HB3.out)).mono ?_); clear cs; rintro e w4 ⟨rfl, hb4⟩; have HB4 := Lib.hid hb4; clear hb4))
          | fail)
          have HO := Lib.hid (((HON.out.trans (Only.ofBelow (S := fun k => k = b) HBA.out) (fun k hk _ => hk)).trans HO2.out (fun k hk _ => hk)).trans (Only.ofBelow (S := fun k => k = b) (pb2 (pb2 (pal _) HB3.out) HB4.out)) (fun k hk _ => hk))
          have HMZ := Lib.hid (((HM2.out.below (pal _)).below HB3.out).below HB4.out)
          go_roundw
          case rel => exact ⟨n + 1, by omega, by go_num, tls_step.2 ⟨HTL.out, HTE2.out.2 (by trivial)⟩, by rw [HNX.out]; exact HMZ.out, HO.out⟩
          case measure => simp [intOf]; omega
      · have cr := fun W => oret_any m pa pc W false (decide_eq_false hg)
        have HTE2 := Lib.hid (HTE.out.2 (fun h => absurd h hg))
        unfold MDoIs Ad.val at cd
        generalize hAA : doA (stt L D n) m.o.c m.o.k m.o.h = A at cd HTE
        generalize hPP : doP (stt L D n) m.o.c m.o.k m.o.v = R at cd HNX
        clear hps1 hAA hPP hg HTE HGD
        have HQ1 := Lib.hid hq1
        clear hq1
        obtain ⟨t, f, g, ⟨oc, ok, oh, ov⟩, ⟨ae, ao, ak, av, an, ap⟩⟩ := m
        unfold clV at cr
        unfold clC at HQ1 HBA cd
        dsimp only at c0 c1 c2 c3 c4 c5 c6 c7 c8 c9 c10 c11 c12 cr cd HQ1 HBA
        go_wp2_with (first
          | (go_at_call 34; ((with_reducible refine cd.mono ?_); clear cd; rintro e w2 ⟨aa, ca, rfl, hM2, hR2, hO2⟩; have HM2 := Lib.hid hM2; have HR2 := Lib.hid (hR2.prs rfl); have HO2 := Lib.hid hO2; have HQ2 := Lib.hid (HQ1.out.only hO2 (fun e => hne1 e)); clear hM2 hR2 hO2; have hlw := HQ2.out.lt; have hnz1 : ¬ wr.heap.size = w2.heap.size := (by omega); have hnz2 : ¬ w2.heap.size = wr.heap.size := (by omega); have q0 := HQ2.out.at_ 0 _ rfl; have q1 := HQ2.out.at_ 1 _ rfl; have q2 := HQ2.out.at_ 2 _ rfl; have q3 := HQ2.out.at_ 3 _ rfl; have q4 := HQ2.out.at_ 4 _ rfl; have q5 := HQ2.out.at_ 5 _ rfl; have q6 := HQ2.out.at_ 6 _ rfl; have q7 := HQ2.out.at_ 7 _ rfl; have q8 := HQ2.out.at_ 8 _ rfl; have q9 := HQ2.out.at_ 9 _ rfl; have q10 := HQ2.out.at_ 10 _ rfl; have q11 := HQ2.out.at_ 11 _ rfl; have q12 := HQ2.out.at_ 12 _ rfl))
          | (go_at_call 54; ((with_reducible refine (cr _).mono ?_); clear cr; rintro e w3 ⟨rfl, hb3⟩; have HB3 := Lib.hid hb3; have HQ3 := Lib.hid ((HQ2.out.past _).keep hb3); have HA3 := Lib.hid ((Bq.new _ _ _).keep hb3); clear hb3 q0 q1 q2 q3 q4 q5 q6 q7 q8 q9 q10 q11 q12; have q0 := HQ3.out.at_ 0 _ rfl; have q1 := HQ3.out.at_ 1 _ rfl; have q2 := HQ3.out.at_ 2 _ rfl; have q3 := HQ3.out.at_ 3 _ rfl; have q4 := HQ3.out.at_ 4 _ rfl; have q5 := HQ3.out.at_ 5 _ rfl; have q6 := HQ3.out.at_ 6 _ rfl; have q7 := HQ3.out.at_ 7 _ rfl; have q8 := HQ3.out.at_ 8 _ rfl; have q9 := HQ3.out.at_ 9 _ rfl; have q10 := HQ3.out.at_ 10 _ rfl; have q11 := HQ3.out.at_ 11 _ rfl; have q12 := HQ3.out.at_ 12 _ rfl; have z0 := HA3.out.at_ 0 _ rfl; have z1 := HA3.out.at_ 1 _ rfl; have z2 := HA3.out.at_ 2 _ rfl; have z3 := HA3.out.at_ 3 _ rfl; have z4 := HA3.out.at_ 4 _ rfl; have z5 := HA3.out.at_ 5 _ rfl))
          | fail)
        have HO := Lib.hid (((HON.out.trans (Only.ofBelow (S := fun k => k = b) HBA.out) (fun k hk _ => hk)).trans HO2.out (fun k hk _ => hk)).trans (Only.ofBelow (S := fun k => k = b) (pb2 (pal _) HB3.out)) (fun k hk _ => hk))
        have HMZ := Lib.hid ((HM2.out.below (pal _)).below HB3.out)
        go_roundw
        case rel => exact ⟨n + 1, by omega, by go_num, tls_step.2 ⟨HTL.out, HTE2.out⟩, by rw [HNX.out]; exact HMZ.out, HO.out⟩
        case measure => simp [intOf]; omega
    · obtain rfl : n = D.length := by omega
      have hBt : Hid (B = true) := Lib.hid (HBB.out.2 HTL.out)
      go_wp2_with (fail)
      go_ret
      exact ⟨by rw [hBt.out]; rfl, HON.out, fun _ => HMA.out⟩

end Go.Proofs.Ytadfnbmogobopaa
