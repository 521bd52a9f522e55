/- osierref18.Ends exactly. No condition: lemmas. -/
import Derived.Test.YtijepfabkalcoaaOrD
import Derived.Test.YtijepfabkalcoaaOrE
import Derived.Test.YtijepfabkalcoaaLrD
namespace Go.Proofs.Ytijepfabkalcoaa
open Go.RowKit
set_option linter.all false
set_option maxRecDepth 20000

/-- Each place names a call that was not refused. -/
def okN (L : List ClD) (l : List Int) : Prop := ∀ i ∈ l, inR L i ∧ ¬ rfd (cAt L i)
/-- How often: each once; of each call whether it is named. -/
structure Nam (L : List ClD) (l : List Int) (F : Nat → Int) : Prop where
  ok : okN L l
  nd : l.Nodup
  is : ∀ j, j < L.length → (F j = 0 ↔ nmB l j = false)
theorem Nam.nil (L : List ClD) : Nam L [] (fun _ => 0) := ⟨fun i hi => by simp at hi, by simp, fun j hj => by simp [nmB]⟩
theorem Nam.more {L : List ClD} {l : List Int} {F : Nat → Int} (h : Nam L l F) {j : Nat} (hr : inR L (j : Int)) (hf : ¬ rfd (cAt L (j : Int))) (hn : nmB l j = false) {v : Int} (hv : ¬ v = 0) : Nam L (l ++ [(j : Int)]) (fun i => if i = j then v else F i) := by
  refine ⟨fun i hi => ?_, ?_, fun i hi => ?_⟩
  · rcases List.mem_append.1 hi with h1 | h1
    · exact h.ok i h1
    · rw [List.mem_singleton.1 h1]; exact ⟨hr, hf⟩
  · rw [List.nodup_append]
    refine ⟨h.nd, by simp, fun y hy z hz => ?_⟩
    rw [List.mem_singleton.1 hz]
    rintro rfl
    exact of_decide_eq_false hn hy
  · rw [nmB_snoc]
    by_cases e : i = j
    · subst e; simp [hv]
    · simp only [if_neg e]; exact h.is i hi
/-- None that must be is missing among the first n. -/
def mstN (L : List ClD) (l : List Int) (n : Nat) : Prop := ∀ i : Nat, i < n → must (L.getD i zCl) → nmB l i = true
theorem mst_step {L : List ClD} {l : List Int} {n : Nat} : mstN L l (n + 1) ↔ mstN L l n ∧ (must (L.getD n zCl) → nmB l n = true) := by
  constructor
  · intro h; exact ⟨fun i hi => h i (by omega), h n (by omega)⟩
  · rintro ⟨h1, h2⟩ i hi
    rcases Nat.lt_or_ge i n with h | h
    · exact h1 i h
    · rw [show i = n by omega]; exact h2
theorem nms_of {L : List ClD} {l : List Int} {F : Nat → Int} (h : Nam L l F) : Nms L l ↔ mstN L l L.length := by
  constructor
  · intro k i hi hm; exact decide_eq_true (k.all i hi hm)
  · intro k; exact ⟨fun i hi => (h.ok i hi).1, h.nd, fun i hi => (h.ok i hi).2, fun i hi hm => of_decide_eq_true (k i hi hm)⟩
/-- None behind the first n is before one of these. -/
def inF (D : List ClD) (N n : Nat) : Prop := ∀ i, i < n → ∀ j, i < j → j < N → ¬ bef (D.getD j zCl) (D.getD i zCl)
theorem inF_all {D : List ClD} {N : Nat} : inF D N N ↔ inT D N := ⟨fun h i j hij hj => h i (by omega) j hij hj, fun h i hi j hij hj => h i j hij hj⟩
theorem inF_step {D : List ClD} {N n : Nat} (h : inF D N n) (k : ∀ q, q < N - (n + 1) → ¬ bef (D.getD (n + 1 + q) zCl) (D.getD n zCl)) : inF D N (n + 1) := fun i hi j hij hj => by
  rcases Nat.lt_or_ge i n with h1 | h1
  · exact h i h1 j hij hj
  · obtain rfl : i = n := by omega
    have := k (j - (i + 1)) (by omega)
    rwa [show i + 1 + (j - (i + 1)) = j by omega] at this
theorem drop_at {l : List Int} {n q : Nat} {x : Int} (h : (l.drop (n + 1))[q]? = some x) : l[n + 1 + q]? = some x := by rwa [List.getElem?_drop] at h

set_option maxRecDepth 100000 in
set_option maxHeartbeats 51200000 in
theorem rends_any (a a1 a2 : Option Addr) (cap cap1 cap2 : Nat) (m : List Pr) (N : List EvD) (l : List Int) (w : World) (hm : Prs w a cap m) (hN : Es w a1 cap1 N) (hl : RI w a2 cap2 l)
    (sm : m.length ≤ 200) (sN : N.length ≤ 300) (sl : l.length ≤ 300) (B : Bool) (hB : B = true ↔ ordR m N l) (R : List Pr) (hR : R = if B = true then endP m N l else []) :
    Calls Try.prog 28 #[.slice a m.length cap, .slice a1 N.length cap1, .slice a2 l.length cap2] w (EndIs w R B) := by
  have HM := Lib.hid hm
  have HN := Lib.hid hN
  have HL := Lib.hid hl
  have HBB := Lib.hid hB
  have HR := Lib.hid hR
  have z1 := hm.1
  have z2 := hm.2.1
  have z3 := hN.1
  have z4 := hN.2.1
  have z5 := hl.1
  have z6 := hl.2.1
  unfold maxLen at z2 z4 z6
  have cl := fun B hB => rmay_any a cap m w hm B hB
  have cp := fun W (hb : Below w.heap.size w W) => rmaypast_any a1 cap1 N W (hN.keep hb) sN
  clear hm hN hl hB hR
  have no : ∀ (W : World), B = false → Below w.heap.size w W → ∀ e, e = Ending.returned (.tuple #[.slice none 0 0, .bool false]) → EndIs w R B e W := fun W hf hb e he => by
    have h2 := HR.out
    rw [hf, if_neg (by simp)] at h2
    subst h2
    exact ⟨none, 0, by rw [he, hf]; rfl, Prs.nil _, hb⟩
  have HNO := Lib.hid no
  clear no
  by_cases hs : Srt m
  rotate_left
  · have hBf : Hid (B = false) := Lib.hid (by
      cases B
      · rfl
      · exact absurd (HBB.out.1 rfl).1 hs)
    have cl1 := cl false (decide_eq_false hs)
    clear cl cp hs
    go_enter Try.func28, Try.ntmps28
    go_wp2_with (first
      | (go_at_call 30; ((with_reducible refine cl1.mono ?_); clear cl1; rintro e w1 ⟨rfl, hb1⟩; have HB1 := Lib.hid hb1; clear hb1))
      | fail)
    refine bodyPost_ret (v := .tuple #[.slice none 0 0, .bool false]) (by simp [results, Try.results28, go_sem]) rfl (HNO.out _ hBf.out HB1.out _ rfl)
  have cl1 := cl true (decide_eq_true hs)
  have HS := Lib.hid hs
  cases hmt : mtch N with
  | none =>
    have hBf : Hid (B = false) := Lib.hid (by
      cases B
      · rfl
      · exact absurd (HBB.out.1 rfl) (ordR_no hmt))
    rw [hmt] at cp
    have cp1 := cp
    simp only [Option.isSome_none] at cp1
    clear cl cp hs hmt
    go_enter Try.func28, Try.ntmps28
    go_wp2_with (first
      | (go_at_call 30; ((with_reducible refine cl1.mono ?_); clear cl1; rintro e w1 ⟨rfl, hb1⟩; have HB1 := Lib.hid hb1; clear hb1))
      | (go_at_call 22; ((with_reducible refine (cp1 _ HB1.out).mono ?_); clear cp1; rintro e w2 ⟨rfl, hb2⟩; have HB2 := Lib.hid (pb2 HB1.out hb2); clear hb2))
      | fail)
    refine bodyPost_ret (v := .tuple #[.slice none 0 0, .bool false]) (by simp [results, Try.results28, go_sem]) rfl (HNO.out _ hBf.out HB2.out _ rfl)
  | some s =>
    rw [hmt] at cp
    have cp1 := cp
    simp only [Option.isSome_some] at cp1
    have cc := fun W (hb : Below w.heap.size w W) => rcalls_any a1 cap1 N W (HN.out.keep hb) sN s.l (by unfold callsL; rw [hmt])
    have I := minv N _ s hmt
    have hLN : s.l.length ≤ 300 := by have h1 := I.nb; have h2 := (cnt_le N N.length).1; omega
    have hOI := (ordR_is (l := l) hs hmt)
    have hEP : endP m N l = stt m (dn s.l l) l.length := by unfold endP; rw [hmt]
    obtain ⟨L, hLL⟩ : ∃ L, s.l = L := ⟨_, rfl⟩
    rw [hLL] at cc hLN hOI hEP
    rw [hOI] at HBB
    rw [hEP] at HR
    clear cl cp hs hmt I hOI hEP hLL
    have hmk : ∀ W : World, (Instr.makeSlice 37 (.int .i64 (L.length : Int)) (.int .i64 (L.length : Int))).run Try.prog W = .ok (.slice (some ⟨W.heap.size, 0, none⟩) L.length L.length) (W.alloc (.cells (mkIs L.length) 3)) := fun W => mkIs_run L.length (by omega) W
    go_enter Try.func28, Try.ntmps28
    go_wp2_with (first
      | (go_at_call 30; ((with_reducible refine cl1.mono ?_); clear cl1; rintro e w1 ⟨rfl, hb1⟩; have HB1 := Lib.hid hb1; clear hb1))
      | (go_at_call 22; ((with_reducible refine (cp1 _ HB1.out).mono ?_); clear cp1; rintro e w2 ⟨rfl, hb2⟩; have HB2 := Lib.hid (pb2 HB1.out hb2); clear hb2))
      | (go_at_call 33; ((with_reducible refine (cc _ HB2.out).mono ?_); clear cc; rintro e w3 ⟨ao3, cp3, rfl, hC3, hb3⟩; have HC3 := Lib.hid hC3; have HB3 := Lib.hid (pb2 HB2.out hb3); clear hb3 hC3))
      | fail)
    have HQ5 := Lib.hid (mkIs_new w3 L.length)
    have HB5 := Lib.hid (pal (w := w3) (.cells (mkIs L.length) 3))
    have hc3 := HC3.out.1
    have hc4 := HC3.out.2.1
    unfold maxLen at hc4
    clear hmk HB1 HB2
    generalize w3.alloc (.cells (mkIs L.length) 3) = W5 at HQ5 HB5 ⊢
    go_loopw [35] (fun i wr => ∃ (n : Nat) (F : Nat → Int), n ≤ l.length ∧ i = .int .i64 n ∧ Nam L (l.take n) F ∧ Bq wr w3.heap.size (vtv (fun j => .int .i64 (F j)) L.length) ∧ Below w3.heap.size w3 wr) (fun i _ => l.length - (intOf i).toNat)
    case atStart => exact ⟨0, fun _ => 0, Nat.zero_le _, rfl, Nam.nil L, HQ5.out, HB5.out⟩
    case round =>
      clear HQ5 HB5
      obtain ⟨n, F, hnl, rfl, hnm, hbq, hbe⟩ := hrel
      have HNM := Lib.hid hnm
      have HBQ := Lib.hid hbq
      have HBE := Lib.hid hbe
      by_cases hlt : n < l.length
      · obtain ⟨x, hx⟩ : ∃ x, l[n]? = some x := ⟨_, List.getElem?_eq_getElem hlt⟩
        obtain ⟨bi, oi, rfl, hxc⟩ := ri_at (HL.out.below (pb2 HB3.out hbe)) hx
        have htk : l.take (n + 1) = l.take n ++ [x] := by rw [List.take_add_one, hx]; rfl
        have HTK := Lib.hid htk
        have HXM := Lib.hid (List.mem_of_getElem? hx)
        have hn0 : (0 : Int) ≤ (n : Int) := Int.natCast_nonneg n
        have hnI : (n : Int) < (l.length : Int) := Int.ofNat_lt.2 hlt
        clear hx htk hnm hbe
        by_cases h0 : x < 0
        · have hBf : Hid (B = false) := Lib.hid (by
            cases B
            · rfl
            · have := ((HBB.out.1 rfl).nm.inr x HXM.out).1
              omega)
          clear hbq
          go_wp2_with (fail)
          refine bodyPost_ret (v := .tuple #[.slice none 0 0, .bool false]) (by simp [results, Try.results28, go_sem]) rfl (HNO.out _ hBf.out (pb2 HB3.out HBE.out) _ rfl)
        obtain ⟨j, rfl⟩ : ∃ j : Nat, x = (j : Int) := ⟨x.toNat, by omega⟩
        have hj0 : (0 : Int) ≤ (j : Int) := Int.natCast_nonneg j
        clear h0
        by_cases h1 : (L.length : Int) ≤ (j : Int)
        · have hBf : Hid (B = false) := Lib.hid (by
            cases B
            · rfl
            · have := ((HBB.out.1 rfl).nm.inr _ HXM.out).2
              omega)
          have h1n : L.length ≤ j := by omega
          clear hbq
          go_wp2_with (fail)
          refine bodyPost_ret (v := .tuple #[.slice none 0 0, .bool false]) (by simp [results, Try.results28, go_sem]) rfl (HNO.out _ hBf.out (pb2 HB3.out HBE.out) _ rfl)
        have hjl : (j : Int) < (L.length : Int) := by omega
        have hjn : j < L.length := by omega
        have h1n : ¬ L.length ≤ j := by omega
        have hcj := HBQ.out.at_ j _ (vtv_get hjn)
        have hfj := HBQ.out.fr j
        try dsimp only at hcj
        have HIR := Lib.hid (show inR L (j : Int) from ⟨hj0, hjl⟩)
        have HFJ := Lib.hid (HNM.out.is j hjn)
        clear h1 hbq
        by_cases hv : F j = 0
        rotate_left
        · have hBf : Hid (B = false) := Lib.hid (by
            cases B
            · rfl
            · have h2 := (HBB.out.1 rfl).nm.nd
              have h3 : (l.take (n + 1)).Nodup := h2.sublist (List.take_sublist _ _)
              rw [HTK.out, List.nodup_append] at h3
              have h4 : nmB (l.take n) j = true := by
                cases c : nmB (l.take n) j
                · exact absurd (HFJ.out.2 c) hv
                · rfl
              exact absurd rfl (h3.2.2 _ (of_decide_eq_true h4) _ (by simp)))
          have hvb : (F j != 0) = true := by simpa using hv
          clear hv
          go_wp2_with (fail)
          refine bodyPost_ret (v := .tuple #[.slice none 0 0, .bool false]) (by simp [results, Try.results28, go_sem]) rfl (HNO.out _ hBf.out (pb2 HB3.out HBE.out) _ rfl)
        have HV := Lib.hid (HFJ.out.1 hv)
        rw [hv] at hcj
        clear hv
        have hcm := cAt_mem HIR.out
        rw [Int.toNat_natCast] at hcm
        obtain ⟨bd, oo, pa, pc, rfl, hca0⟩ := HC3.out.2.2 j _ hcm
        have hca := hca0.keep HBE.out
        obtain ⟨c, hc⟩ : ∃ c, cAt L (j : Int) = c := ⟨_, rfl⟩
        rw [hc] at hca
        have HCE := Lib.hid hc
        obtain ⟨c0, c1, c2, c3, c4, c5, c6, c7, c8, c9, c10, c11, c12⟩ := hca.ex
        clear hcm hca0 hca hc
        obtain ⟨E, hE⟩ : ∃ E : Bool, decide (rfd c) = E := ⟨_, rfl⟩
        have cf := fun W => rref_any c pa pc W E hE
        have HE := Lib.hid hE
        clear hE
        cases E
        · have hnr : ¬ rfd (cAt L (j : Int)) := by rw [HCE.out]; exact of_decide_eq_false HE.out
          have HNX := Lib.hid (HNM.out.more HIR.out hnr HV.out (v := (n : Int) + 1) (by omega))
          clear hnr
          obtain ⟨t, f, g, ⟨oc, ok, oh, ov⟩, ⟨ae, ao, ak, av, an, ap⟩⟩ := c
          unfold clV at cf
          dsimp only at c0 c1 c2 c3 c4 c5 c6 c7 c8 c9 c10 c11 c12 cf
          go_wp2_with (first
            | (go_at_call 59; ((with_reducible refine (cf _).mono ?_); clear cf; rintro e w6 ⟨rfl, hb6⟩; have HB6 := Lib.hid (pb2 HBE.out hb6); have HQ6 := Lib.hid (HBQ.out.keep hb6); have hc6 := pkc hb6 hcj; have hf6 := HQ6.out.fr j; clear hcj hfj hb6))
            | fail)
          go_roundw
          case rel =>
            refine ⟨n + 1, _, by omega, by go_num, by rw [HTK.out]; exact HNX.out, ?_, Below.setCell HB6.out (Nat.le_refl _) _⟩
            have := HQ6.out.set j (.int .i64 ((n : Int) + 1)) (by rw [vtv_len]; exact hjn)
            rw [vtv_set] at this
            refine (congrArg (Bq _ _) (vtv_congr fun i _ => ?_)).mp this
            split <;> rfl
          case measure => simp [intOf]; omega
        · have hBf : Hid (B = false) := Lib.hid (by
            cases B
            · rfl
            · have h2 := (HBB.out.1 rfl).nm.no _ HXM.out
              rw [HCE.out] at h2
              exact absurd (of_decide_eq_true HE.out) h2)
          obtain ⟨t, f, g, ⟨oc, ok, oh, ov⟩, ⟨ae, ao, ak, av, an, ap⟩⟩ := c
          unfold clV at cf
          dsimp only at c0 c1 c2 c3 c4 c5 c6 c7 c8 c9 c10 c11 c12 cf
          go_wp2_with (first
            | (go_at_call 59; ((with_reducible refine (cf _).mono ?_); clear cf; rintro e w6 ⟨rfl, hb6⟩; have HB6 := Lib.hid (pb2 HBE.out hb6); clear hb6))
            | fail)
          refine bodyPost_ret (v := .tuple #[.slice none 0 0, .bool false]) (by simp [results, Try.results28, go_sem]) rfl (HNO.out _ hBf.out (pb2 HB3.out HB6.out) _ rfl)
      · obtain rfl : n = l.length := by omega
        rw [List.take_of_length_le (Nat.le_refl _)] at HNM
        clear hnm hbq hbe
        have HMW := Lib.hid (HM.out.below (pb2 HB3.out HBE.out))
        go_wp2_with (first
          | (at_builtin; refine wpList_app rfl (.const (.slice none 0 0)) (.tmp 68) rfl (fun j => j < wr.heap.size) _ [] m rfl (PRow.nil _ _) (fun k hk => hk) _ rfl (src_any HMW.out) (by simp; omega) m.length (by simp) m rfl ?_; intro ao9 cp9 w9 hm9 hc9 hR9 hO9; have HF9 := Lib.hid (And.intro hR9 hO9); clear hR9 hO9; unfold maxLen at hm9)
          | fail)
        have HB9 := Lib.hid (show Below w3.heap.size w3 w9 from pb2 HBE.out (only_below (w0 := wr) (Below.refl _ _) HF9.out.2 (fun k hk => hk)))
        have HQ9 := Lib.hid (HBQ.out.only HF9.out.2 (fun x => x HBQ.out.lt))
        have HP9 := Lib.hid (HF9.out.1.prs rfl)
        clear HMW HF9 HBQ HBE
        go_loopw [72, 12] (fun i x wr => ∃ (n : Nat) (ao : Option Addr) (cp : Nat), n ≤ l.length ∧ i = .int .i64 n ∧ x = .slice ao (stt m (dn L l) n).length cp ∧ Prs wr ao cp (stt m (dn L l) n) ∧ tls m (dn L l) n ∧ inF (dn L l) l.length n ∧ Bq wr w3.heap.size (vtv (fun j => .int .i64 (F j)) L.length) ∧ Below w3.heap.size w3 wr) (fun i _ _ => l.length - (intOf i).toNat)
        case atStart => exact ⟨0, ao9, cp9, Nat.zero_le _, rfl, rfl, HP9.out, fun i hi => by omega, fun i hi => by omega, HQ9.out, HB9.out⟩
        case round =>
          clear HP9 HQ9 HB9
          obtain ⟨n, ao, cp, hnl, rfl, rfl, hps, htl, hif, hbq, hbe⟩ := hrel
          have HPS := Lib.hid hps
          have HTL := Lib.hid htl
          have HIF := Lib.hid hif
          have HBQ := Lib.hid hbq
          have HBE := Lib.hid hbe
          have hz1 := hps.1
          have hz2 := hps.2.1
          unfold maxLen at hz2
          clear hps htl hif hbq hbe
          by_cases hlt : n < l.length
          · obtain ⟨w5, rfl⟩ : ∃ w5, w5 = wr := ⟨_, rfl⟩
            obtain ⟨x, hx⟩ : ∃ x, l[n]? = some x := ⟨_, List.getElem?_eq_getElem hlt⟩
            have HRI := Lib.hid (HL.out.below (pb2 HB3.out HBE.out))
            obtain ⟨bi, oi, rfl, hxc⟩ := ri_at HRI.out hx
            obtain ⟨aD, hdl, hrd, hor⟩ := HRI.out.drop (n + 1) hlt
            have HRD := Lib.hid hrd
            have hc5 := hrd.1
            have hc6 := hrd.2.1
            unfold maxLen at hc6
            have haD : (if cap2 = n + 1 then some (⟨bi, oi, none⟩ : Addr) else some ⟨bi, oi + (n + 1), none⟩) = aD := by
              rcases hor with ⟨h1, h2⟩ | ⟨h1, h2⟩
              · rw [if_pos h1, h2]
              · rw [if_neg h1, h2]
            have hir := (HNM.out.ok x (List.mem_of_getElem? hx)).1
            obtain ⟨j, rfl⟩ : ∃ j : Nat, x = (j : Int) := ⟨x.toNat, by have := hir.1; omega⟩
            have hj0 : (0 : Int) ≤ (j : Int) := Int.natCast_nonneg j
            have hjl : (j : Int) < (L.length : Int) := hir.2
            have hcm := cAt_mem hir
            rw [Int.toNat_natCast] at hcm
            obtain ⟨bd, oo, pa, pc, rfl, hca0⟩ := HC3.out.2.2 j _ hcm
            have HCA := Lib.hid hca0
            have hdn : (dn L l).getD n zCl = cAt L (j : Int) := by rw [dn_at hlt, List.getD_eq_getElem?_getD, hx]; rfl
            obtain ⟨c, hc⟩ : ∃ c, cAt L (j : Int) = c := ⟨_, rfl⟩
            rw [hc] at HCA hdn
            have HDN := Lib.hid hdn
            have HL2 := Lib.hid hlt
            have hn0 : (0 : Int) ≤ (n : Int) := Int.natCast_nonneg n
            have hnI : (n : Int) < (l.length : Int) := Int.ofNat_lt.2 hlt
            have hnI1 : (0 : Int) ≤ (n : Int) + 1 := by omega
            have hnI2 : (n : Int) + 1 ≤ (l.length : Int) := by omega
            have hnI3 : (n : Int) + 1 ≤ (cap2 : Int) := by omega
            have htn : ((n : Int) + 1).toNat = n + 1 := by omega
            clear hx hcm hca0 hc hdn hir hrd hor
            go_wp2_with (fail)
            go_loopw [82] (fun i wr => ∃ q : Nat, q ≤ l.length - (n + 1) ∧ i = .int .i64 q ∧ (∀ p, p < q → ¬ bef ((dn L l).getD (n + 1 + p) zCl) ((dn L l).getD n zCl)) ∧ Below w5.heap.size w5 wr) (fun i _ => (l.length - (n + 1)) - (intOf i).toNat)
            case atStart => exact ⟨0, Nat.zero_le _, rfl, fun p hp => by omega, by first | exact Below.refl _ _ | exact (Below.refl _ _).drew⟩
            case round =>
              obtain ⟨q, hq, rfl, hnb, hbq⟩ := hrel
              have HNB := Lib.hid hnb
              have HBR := Lib.hid hbq
              clear hnb hbq
              by_cases hlq : q < l.length - (n + 1)
              · obtain ⟨y, hy⟩ : ∃ y, (l.drop (n + 1))[q]? = some y := ⟨_, List.getElem?_eq_getElem (by rw [List.length_drop]; exact hlq)⟩
                obtain ⟨b2, o2, rfl, hyc⟩ := ri_at (HRD.out.below HBR.out) hy
                have hyl := drop_at hy
                have hir := (HNM.out.ok y (List.mem_of_getElem? hyl)).1
                obtain ⟨k, rfl⟩ : ∃ k : Nat, y = (k : Int) := ⟨y.toNat, by have := hir.1; omega⟩
                have hk0 : (0 : Int) ≤ (k : Int) := Int.natCast_nonneg k
                have hkl : (k : Int) < (L.length : Int) := hir.2
                have hcm := cAt_mem hir
                rw [Int.toNat_natCast] at hcm
                obtain ⟨bd', oo', pa', pc', e', hda⟩ := HC3.out.2.2 k _ hcm
                cases e'
                have hdn : (dn L l).getD (n + 1 + q) zCl = cAt L (k : Int) := by rw [dn_at (by omega), List.getD_eq_getElem?_getD, hyl]; rfl
                obtain ⟨d, hd⟩ : ∃ d, cAt L (k : Int) = d := ⟨_, rfl⟩
                rw [hd] at hda hdn
                have HDQ := Lib.hid hdn
                have hda2 := hda.keep (pb2 HBE.out HBR.out)
                have hca2 := HCA.out.keep (pb2 HBE.out HBR.out)
                obtain ⟨d0, d1, d2, d3, d4, d5, d6, d7, d8, d9, d10, d11, d12⟩ := hda2.ex
                obtain ⟨c0, c1, c2, c3, c4, c5, c6, c7, c8, c9, c10, c11, c12⟩ := hca2.ex
                obtain ⟨E, hE⟩ : ∃ E : Bool, decide (bef d c) = E := ⟨_, rfl⟩
                have cb := fun W => rbef_any d c pa' pa pc' pc W E hE
                have HE := Lib.hid (show decide (bef ((dn L l).getD (n + 1 + q) zCl) ((dn L l).getD n zCl)) = E by rw [HDQ.out, HDN.out]; exact hE)
                have hq0 : (0 : Int) ≤ (q : Int) := Int.natCast_nonneg q
                have hql : (q : Int) < ((l.length - (n + 1) : Nat) : Int) := Int.ofNat_lt.2 hlq
                have HLQ := Lib.hid hlq
                clear hy hyl hir hcm hda hd hdn hda2 hca2 hE hlq haD
                obtain ⟨t, f, g, ⟨oc, ok, oh, ov⟩, ⟨ae, ao, ak, av, an, ap⟩⟩ := c
                obtain ⟨t', f', g', ⟨oc', ok', oh', ov'⟩, ⟨ae', ao', ak', av', an', ap'⟩⟩ := d
                unfold clV at cb
                dsimp only at c0 c1 c2 c3 c4 c5 c6 c7 c8 c9 c10 c11 c12 d0 d1 d2 d3 d4 d5 d6 d7 d8 d9 d10 d11 d12 cb
                go_wp2_with (fail)
                have hw2 : IntKind.i64.wrap (j : Int) = (j : Int) := (wrapEqP _).trans (by unfold wrap64; omega)
                have hw4 : IntKind.i64.wrap (k : Int) = (k : Int) := (wrapEqP _).trans (by unfold wrap64; omega)
                refine wp_region_held_drew (S := fun W => W.cell? ⟨bd, oo + k * 13, none⟩ = some (.int .i64 t') ∧ W.cell? ⟨bd, oo + k * 13 + 1, none⟩ = some (.int .i64 f') ∧ W.cell? ⟨bd, oo + k * 13 + 2, none⟩ = some (.int .i64 g') ∧ W.cell? ⟨bd, oo + k * 13 + 3, none⟩ = some (.int .i64 oc') ∧ W.cell? ⟨bd, oo + k * 13 + 4, none⟩ = some (.int .i64 ok') ∧ W.cell? ⟨bd, oo + k * 13 + 5, none⟩ = some (.int .i64 oh') ∧ W.cell? ⟨bd, oo + k * 13 + 6, none⟩ = some (.int .i64 ov') ∧ W.cell? ⟨bd, oo + k * 13 + 7, none⟩ = some (.int .i64 ae') ∧ W.cell? ⟨bd, oo + k * 13 + 8, none⟩ = some (.bool ao') ∧ W.cell? ⟨bd, oo + k * 13 + 9, none⟩ = some (.int .i64 ak') ∧ W.cell? ⟨bd, oo + k * 13 + 10, none⟩ = some (.int .i64 av') ∧ W.cell? ⟨bd, oo + k * 13 + 11, none⟩ = some (.int .i64 an') ∧ W.cell? ⟨bd, oo + k * 13 + 12, none⟩ = some (.slice pa' ap'.length pc') ∧ W.cell? ⟨bd, oo + j * 13, none⟩ = some (.int .i64 t) ∧ W.cell? ⟨bd, oo + j * 13 + 1, none⟩ = some (.int .i64 f) ∧ W.cell? ⟨bd, oo + j * 13 + 2, none⟩ = some (.int .i64 g) ∧ W.cell? ⟨bd, oo + j * 13 + 3, none⟩ = some (.int .i64 oc) ∧ W.cell? ⟨bd, oo + j * 13 + 4, none⟩ = some (.int .i64 ok) ∧ W.cell? ⟨bd, oo + j * 13 + 5, none⟩ = some (.int .i64 oh) ∧ W.cell? ⟨bd, oo + j * 13 + 6, none⟩ = some (.int .i64 ov) ∧ W.cell? ⟨bd, oo + j * 13 + 7, none⟩ = some (.int .i64 ae) ∧ W.cell? ⟨bd, oo + j * 13 + 8, none⟩ = some (.bool ao) ∧ W.cell? ⟨bd, oo + j * 13 + 9, none⟩ = some (.int .i64 ak) ∧ W.cell? ⟨bd, oo + j * 13 + 10, none⟩ = some (.int .i64 av) ∧ W.cell? ⟨bd, oo + j * 13 + 11, none⟩ = some (.int .i64 an) ∧ W.cell? ⟨bd, oo + j * 13 + 12, none⟩ = some (.slice pa ap.length pc) ∧ Below wr.heap.size wr W) (by kernel_rfl) (by first | exact ⟨d0, d1, d2, d3, d4, d5, d6, d7, d8, d9, d10, d11, d12, c0, c1, c2, c3, c4, c5, c6, c7, c8, c9, c10, c11, c12, Below.refl _ _⟩ | exact ⟨d0, d1, d2, d3, d4, d5, d6, d7, d8, d9, d10, d11, d12, c0, c1, c2, c3, c4, c5, c6, c7, c8, c9, c10, c11, c12, (Below.refl _ _).drew⟩) (fun hHeld => ?_)
                refine tkO 0 ?_ rfl (by kernel_rfl) (fun _ _ _ h => h) ⟨by rfl, ?_⟩ hHeld ?_; rotate_left
                · intro wS hSw; (try dsimp only at hSw); (try go_split_ands); go_simp; try with_reducible rfl
                try simp only [List.getElem_toArray, List.getElem_cons_succ, List.getElem_cons_zero, Act.put, List.setIfInBounds_toArray, List.set_cons_zero, List.set_cons_succ]
                refine tkO 1 ?_ rfl (by kernel_rfl) (fun _ _ _ h => h) ⟨by rfl, ?_⟩ hHeld ?_; rotate_left
                · intro wS hSw; (try dsimp only at hSw); (try go_split_ands); go_simp; try with_reducible rfl
                try simp only [List.getElem_toArray, List.getElem_cons_succ, List.getElem_cons_zero, Act.put, List.setIfInBounds_toArray, List.set_cons_zero, List.set_cons_succ]
                refine tkO 2 ?_ rfl (by kernel_rfl) (fun _ _ _ h => h) ⟨by rfl, ?_⟩ hHeld ?_; rotate_left
                · intro wS hSw; (try dsimp only at hSw); (try go_split_ands); go_simp; try with_reducible rfl
                try simp only [List.getElem_toArray, List.getElem_cons_succ, List.getElem_cons_zero, Act.put, List.setIfInBounds_toArray, List.set_cons_zero, List.set_cons_succ]
                refine tkO 3 ?_ rfl (by kernel_rfl) (fun _ _ _ h => h) ⟨by rfl, ?_⟩ hHeld ?_; rotate_left
                · intro wS hSw; (try dsimp only at hSw); (try go_split_ands); go_simp; try with_reducible rfl
                try simp only [List.getElem_toArray, List.getElem_cons_succ, List.getElem_cons_zero, Act.put, List.setIfInBounds_toArray, List.set_cons_zero, List.set_cons_succ]
                refine tkO 4 ?_ rfl (by kernel_rfl) (fun _ _ _ h => h) ⟨by rfl, ?_⟩ hHeld ?_; rotate_left
                · intro wS hSw; (try dsimp only at hSw); (try go_split_ands); go_simp; try with_reducible rfl
                try simp only [List.getElem_toArray, List.getElem_cons_succ, List.getElem_cons_zero, Act.put, List.setIfInBounds_toArray, List.set_cons_zero, List.set_cons_succ]
                refine tkO 5 ?_ rfl (by kernel_rfl) (fun _ _ _ h => h) ⟨by rfl, ?_⟩ hHeld ?_; rotate_left
                · intro wS hSw; (try dsimp only at hSw); (try go_split_ands); go_simp; try with_reducible rfl
                try simp only [List.getElem_toArray, List.getElem_cons_succ, List.getElem_cons_zero, Act.put, List.setIfInBounds_toArray, List.set_cons_zero, List.set_cons_succ]
                refine tkO 6 ?_ rfl (by kernel_rfl) (fun _ _ _ h => h) ⟨by rfl, ?_⟩ hHeld ?_; rotate_left
                · intro wS hSw; (try dsimp only at hSw); (try go_split_ands); go_simp; try with_reducible rfl
                try simp only [List.getElem_toArray, List.getElem_cons_succ, List.getElem_cons_zero, Act.put, List.setIfInBounds_toArray, List.set_cons_zero, List.set_cons_succ]
                refine tkO 7 ?_ rfl (by kernel_rfl) (fun _ _ _ h => h) ⟨by rfl, ?_⟩ hHeld ?_; rotate_left
                · intro wS hSw; (try dsimp only at hSw); (try go_split_ands); go_simp; try with_reducible rfl
                try simp only [List.getElem_toArray, List.getElem_cons_succ, List.getElem_cons_zero, Act.put, List.setIfInBounds_toArray, List.set_cons_zero, List.set_cons_succ]
                refine wpAnyH_ready (rs := [8]) (by kernel_rfl) (by simp) ?_
                refine AllReadyH.cons rfl (fun K hK => ?_) AllReadyH.nil
                go_simp
                (go_at_call 60; ((with_reducible refine (cb _).mono ?_); rintro e Y ⟨rfl, hbY⟩))
                refine hK.out _ _ ?_ (fun hNext => ?_)
                · exact ⟨pkc hbY hHeld.1, pkc hbY hHeld.2.1, pkc hbY hHeld.2.2.1, pkc hbY hHeld.2.2.2.1, pkc hbY hHeld.2.2.2.2.1, pkc hbY hHeld.2.2.2.2.2.1, pkc hbY hHeld.2.2.2.2.2.2.1, pkc hbY hHeld.2.2.2.2.2.2.2.1, pkc hbY hHeld.2.2.2.2.2.2.2.2.1, pkc hbY hHeld.2.2.2.2.2.2.2.2.2.1, pkc hbY hHeld.2.2.2.2.2.2.2.2.2.2.1, pkc hbY hHeld.2.2.2.2.2.2.2.2.2.2.2.1, pkc hbY hHeld.2.2.2.2.2.2.2.2.2.2.2.2.1, pkc hbY hHeld.2.2.2.2.2.2.2.2.2.2.2.2.2.1, pkc hbY hHeld.2.2.2.2.2.2.2.2.2.2.2.2.2.2.1, pkc hbY hHeld.2.2.2.2.2.2.2.2.2.2.2.2.2.2.2.1, pkc hbY hHeld.2.2.2.2.2.2.2.2.2.2.2.2.2.2.2.2.1, pkc hbY hHeld.2.2.2.2.2.2.2.2.2.2.2.2.2.2.2.2.2.1, pkc hbY hHeld.2.2.2.2.2.2.2.2.2.2.2.2.2.2.2.2.2.2.1, pkc hbY hHeld.2.2.2.2.2.2.2.2.2.2.2.2.2.2.2.2.2.2.2.1, pkc hbY hHeld.2.2.2.2.2.2.2.2.2.2.2.2.2.2.2.2.2.2.2.2.1, pkc hbY hHeld.2.2.2.2.2.2.2.2.2.2.2.2.2.2.2.2.2.2.2.2.2.1, pkc hbY hHeld.2.2.2.2.2.2.2.2.2.2.2.2.2.2.2.2.2.2.2.2.2.2.1, pkc hbY hHeld.2.2.2.2.2.2.2.2.2.2.2.2.2.2.2.2.2.2.2.2.2.2.2.1, pkc hbY hHeld.2.2.2.2.2.2.2.2.2.2.2.2.2.2.2.2.2.2.2.2.2.2.2.2.1, pkc hbY hHeld.2.2.2.2.2.2.2.2.2.2.2.2.2.2.2.2.2.2.2.2.2.2.2.2.2.1, pb2 hHeld.2.2.2.2.2.2.2.2.2.2.2.2.2.2.2.2.2.2.2.2.2.2.2.2.2.2 hbY⟩
                clear hbY
                clear hK K hHeld
                have hHeld := hNext
                clear hNext
                try simp only [List.getElem_toArray, List.getElem_cons_succ, List.getElem_cons_zero, Act.put, List.setIfInBounds_toArray, List.set_cons_zero, List.set_cons_succ]
                refine wpAnyH_done (by kernel_rfl) ?_ _
                clear hw2 hw4
                have HBY := Lib.hid (pb2 HBR.out hHeld.2.2.2.2.2.2.2.2.2.2.2.2.2.2.2.2.2.2.2.2.2.2.2.2.2.2)
                clear hHeld c0 c1 c2 c3 c4 c5 c6 c7 c8 c9 c10 c11 c12 d0 d1 d2 d3 d4 d5 d6 d7 d8 d9 d10 d11 d12 cb
                cases E
                · go_wp2_with (fail)
                  go_roundw
                  case rel =>
                    refine ⟨q + 1, by have := HLQ.out; omega, by go_num, fun p hp => ?_, HBY.out⟩
                    by_cases e : p = q
                    · rw [e]; exact of_decide_eq_false HE.out
                    · exact HNB.out p (by omega)
                  case measure => have := HLQ.out; simp [intOf]; omega
                · have hBf : Hid (B = false) := Lib.hid (by
                    cases B
                    · rfl
                    · exact absurd (of_decide_eq_true HE.out) ((HBB.out.1 rfl).tm n (n + 1 + q) (by omega) (by have := HLQ.out; omega)))
                  go_wp2_with (fail)
                  refine bodyPost_ret (v := .tuple #[.slice none 0 0, .bool false]) (by simp [results, Try.results28, go_sem]) rfl (HNO.out _ hBf.out (pb2 HB3.out (pb2 HBE.out HBY.out)) _ rfl)
              · obtain rfl : q = l.length - (n + 1) := by omega
                have HIF2 := Lib.hid (inF_step HIF.out HNB.out)
                obtain ⟨w6, rfl⟩ : ∃ w6, w6 = wr := ⟨_, rfl⟩
                have HBX := Lib.hid (pb2 HBE.out HBR.out)
                have hca2 := HCA.out.keep HBX.out
                obtain ⟨c0, c1, c2, c3, c4, c5, c6, c7, c8, c9, c10, c11, c12⟩ := hca2.ex
                have HPC0 := Lib.hid hca2.ps
                have HPM := Lib.hid (HPS.out.below HBR.out)
                have HQX := Lib.hid (HBQ.out.keep HBR.out)
                have hlen : (stt m (dn L l) n).length ≤ 1200000 := by have := stt_le m (dn L l) n; omega
                have cd := fun (W : World) (hb : Below w6.heap.size w6 W) => rdo_any ao cp (stt m (dn L l) n) c.o.c c.o.k c.o.h c.o.v W (HPM.out.below hb) hlen
                have HNX : Hid (stt m (dn L l) (n + 1) = doP (stt m (dn L l) n) c.o.c c.o.k c.o.v) := Lib.hid (by rw [← HDN.out]; rfl)
                have HTE : Hid (tel m (dn L l) n ↔ (0 ≤ c.g → doA (stt m (dn L l) n) c.o.c c.o.k c.o.h = c.a)) := Lib.hid (by unfold tel; rw [HDN.out])
                unfold DoIs Ad.val at cd
                generalize hAA : doA (stt m (dn L l) n) c.o.c c.o.k c.o.h = A at cd HTE
                generalize hPP : doP (stt m (dn L l) n) c.o.c c.o.k c.o.v = P at cd HNX
                have hlw6 : bd < w6.heap.size := World.block_lt_of_cell? w6 _ c0
                have HZ6 := Lib.hid (Bq.new w6 #[.int .i64 0, .bool false, .int .i64 0, .int .i64 0, .int .i64 0, .slice none 0 0] 44)
                have HBA := Lib.hid (pal (w := w6) (.cells #[.int .i64 0, .bool false, .int .i64 0, .int .i64 0, .int .i64 0, .slice none 0 0] 44))
                have HG := Lib.hid (Int.lt_or_le c.g 0)
                obtain ⟨cc2, hcc⟩ : ∃ c2, c = c2 := ⟨_, rfl⟩
                have HCC := Lib.hid hcc
                clear hca2 hlen hAA hPP hq haD hcc
                obtain ⟨t, f, g, ⟨oc, ok, oh, ov⟩, ⟨ae, ao, ak, av, an, ap⟩⟩ := c
                dsimp only at c0 c1 c2 c3 c4 c5 c6 c7 c8 c9 c10 c11 c12 cd
                go_wp2_with (first
                  | (go_at_call 34; ((with_reducible refine (cd _ HBA.out).mono ?_); clear cd; rintro e w7 ⟨ao7, cp7, aa, ca, rfl, hP7, hA7, hb7⟩; have HP7 := Lib.hid hP7; have HA7 := Lib.hid hA7; have HZ7 := Lib.hid (HZ6.out.keep hb7); have HB7 := Lib.hid (pb2 HBA.out hb7); have hfz := HZ7.out.fr; clear hP7 hA7 hb7; have z0 := HZ7.out.at_ 0 _ rfl; have z1 := HZ7.out.at_ 1 _ rfl; have z2 := HZ7.out.at_ 2 _ rfl; have z3 := HZ7.out.at_ 3 _ rfl; have z4 := HZ7.out.at_ 4 _ rfl; have z5 := HZ7.out.at_ 5 _ rfl))
                  | fail)
                have hX := stC_in (g := w6.heap.size) [.int .i64 A.err, .bool A.ok, .int .i64 A.k, .int .i64 A.v, .int .i64 A.n, .slice aa A.ps.length ca] 0 w7 _ HZ7.out (Nat.le_refl _)
                have hY := stC_below (w0 := w6) (g := w6.heap.size) (Nat.le_refl _) [.int .i64 A.err, .bool A.ok, .int .i64 A.k, .int .i64 A.v, .int .i64 A.n, .slice aa A.ps.length ca] 0 w7 HB7.out
                have hO := stC_only (g := w6.heap.size) [.int .i64 A.err, .bool A.ok, .int .i64 A.k, .int .i64 A.v, .int .i64 A.n, .slice aa A.ps.length ca] 0 w7
                simp only [stC, Nat.zero_add, Nat.reduceAdd, List.take_zero, List.nil_append, List.length_cons, List.length_nil, List.drop_succ_cons, List.drop_nil, List.append_nil] at hX hY hO
                have HX8 := Lib.hid hX
                have HY8 := Lib.hid hY
                have HP8 := Lib.hid ((HP7.out.onlyC hO (fun k hk => by have e2 : k = w6.heap.size := hk; simp; omega)).prs rfl)
                have HPA := Lib.hid ((HA7.out.onlyC hO (fun k hk => by have e2 : k = w6.heap.size := hk; simp; omega)).prs rfl)
                clear hX hY hO z0 z1 z2 z3 z4 z5 HZ7 hfz HP7 HA7 HB7
                generalize ((((((w7.setCell ⟨w6.heap.size, 0, none⟩ (.int .i64 A.err)).setCell ⟨w6.heap.size, 1, none⟩ (.bool A.ok)).setCell ⟨w6.heap.size, 2, none⟩ (.int .i64 A.k)).setCell ⟨w6.heap.size, 3, none⟩ (.int .i64 A.v)).setCell ⟨w6.heap.size, 4, none⟩ (.int .i64 A.n)).setCell ⟨w6.heap.size, 5, none⟩ (.slice aa A.ps.length ca)) = W8 at HX8 HY8 HP8 HPA ⊢
                have HPC := Lib.hid (HPC0.out.below HY8.out)
                have HQ8 := Lib.hid (HQX.out.keep HY8.out)
                have HB8 := Lib.hid (pb2 HBX.out HY8.out)
                have k2 := pkc HY8.out c2
                have k7 := pkc HY8.out c7
                have k8 := pkc HY8.out c8
                have k9 := pkc HY8.out c9
                have k10 := pkc HY8.out c10
                have k11 := pkc HY8.out c11
                have k12 := pkc HY8.out c12
                clear c0 c1 c2 c3 c4 c5 c6 c7 c8 c9 c10 c11 c12
                have c2 := k2
                have c7 := k7
                have c8 := k8
                have c9 := k9
                have c10 := k10
                have c11 := k11
                have c12 := k12
                have z0 := HX8.out.at_ 0 _ rfl
                have z1 := HX8.out.at_ 1 _ rfl
                have z2 := HX8.out.at_ 2 _ rfl
                have z3 := HX8.out.at_ 3 _ rfl
                have z4 := HX8.out.at_ 4 _ rfl
                have z5 := HX8.out.at_ 5 _ rfl
                clear k2 k7 k8 k9 k10 k11 k12 HPC0 HQX HX8 HY8
                try dsimp only at HTE
                try dsimp only at HPC
                have hg3 := HG.out
                try dsimp only at hg3
                rcases hg3 with hg | hg
                · have hgd : decide (0 ≤ g) = false := decide_eq_false (by omega)
                  have HT := Lib.hid (tls_step.2 ⟨HTL.out, HTE.out.2 (fun h => by omega)⟩)
                  clear hg HTE HG
                  have hw4 : IntKind.i64.wrap (j : Int) = (j : Int) := (wrapEqP _).trans (by unfold wrap64; omega)
                  refine wp_region_held_drew (S := fun W => W.cell? ⟨bd, oo + j * 13 + 2, none⟩ = some (.int .i64 g) ∧ W.cell? ⟨bd, oo + j * 13 + 7, none⟩ = some (.int .i64 ae) ∧ W.cell? ⟨bd, oo + j * 13 + 8, none⟩ = some (.bool ao) ∧ W.cell? ⟨bd, oo + j * 13 + 9, none⟩ = some (.int .i64 ak) ∧ W.cell? ⟨bd, oo + j * 13 + 10, none⟩ = some (.int .i64 av) ∧ W.cell? ⟨bd, oo + j * 13 + 11, none⟩ = some (.int .i64 an) ∧ W.cell? ⟨bd, oo + j * 13 + 12, none⟩ = some (.slice pa ap.length pc) ∧ W.cell? ⟨w6.heap.size, 0, none⟩ = some (.int .i64 A.err) ∧ W.cell? ⟨w6.heap.size, 1, none⟩ = some (.bool A.ok) ∧ W.cell? ⟨w6.heap.size, 2, none⟩ = some (.int .i64 A.k) ∧ W.cell? ⟨w6.heap.size, 3, none⟩ = some (.int .i64 A.v) ∧ W.cell? ⟨w6.heap.size, 4, none⟩ = some (.int .i64 A.n) ∧ W.cell? ⟨w6.heap.size, 5, none⟩ = some (.slice aa A.ps.length ca) ∧ Below W8.heap.size W8 W) (by kernel_rfl) (by first | exact ⟨c2, c7, c8, c9, c10, c11, c12, z0, z1, z2, z3, z4, z5, Below.refl _ _⟩ | exact ⟨c2, c7, c8, c9, c10, c11, c12, z0, z1, z2, z3, z4, z5, (Below.refl _ _).drew⟩) (fun hHeld => ?_)
                  refine tkO 0 ?_ rfl (by kernel_rfl) (fun _ _ _ h => h) ⟨by rfl, ?_⟩ hHeld ?_; rotate_left
                  · intro wS hSw; (try dsimp only at hSw); (try go_split_ands); go_simp; try with_reducible rfl
                  try simp only [List.getElem_toArray, List.getElem_cons_succ, List.getElem_cons_zero, Act.put, List.setIfInBounds_toArray, List.set_cons_zero, List.set_cons_succ]
                  refine tkO 1 ?_ rfl (by kernel_rfl) (fun _ _ _ h => h) ⟨by rfl, ?_⟩ hHeld ?_; rotate_left
                  · intro wS hSw; (try dsimp only at hSw); (try go_split_ands); go_simp; try with_reducible rfl
                  try simp only [List.getElem_toArray, List.getElem_cons_succ, List.getElem_cons_zero, Act.put, List.setIfInBounds_toArray, List.set_cons_zero, List.set_cons_succ]
                  refine tkO 2 ?_ rfl (by kernel_rfl) (fun _ _ _ h => h) ⟨by rfl, ?_⟩ hHeld ?_; rotate_left
                  · intro wS hSw; (try dsimp only at hSw); (try go_split_ands); go_simp; try with_reducible rfl
                  try simp only [List.getElem_toArray, List.getElem_cons_succ, List.getElem_cons_zero, Act.put, List.setIfInBounds_toArray, List.set_cons_zero, List.set_cons_succ]
                  refine tkO 3 ?_ rfl (by kernel_rfl) (fun _ _ _ h => h) ⟨by rfl, ?_⟩ hHeld ?_; rotate_left
                  · intro wS hSw; (try dsimp only at hSw); (try go_split_ands); go_simp; try with_reducible rfl
                  try simp only [List.getElem_toArray, List.getElem_cons_succ, List.getElem_cons_zero, Act.put, List.setIfInBounds_toArray, List.set_cons_zero, List.set_cons_succ]
                  refine tkO 4 ?_ rfl (by kernel_rfl) (fun _ _ _ h => h) ⟨by rfl, ?_⟩ hHeld ?_; rotate_left
                  · intro wS hSw; (try dsimp only at hSw); (try go_split_ands); go_simp; try with_reducible rfl
                  try simp only [List.getElem_toArray, List.getElem_cons_succ, List.getElem_cons_zero, Act.put, List.setIfInBounds_toArray, List.set_cons_zero, List.set_cons_succ]
                  refine tkO 5 ?_ rfl (by kernel_rfl) (fun _ _ _ h => h) ⟨by rfl, ?_⟩ hHeld ?_; rotate_left
                  · intro wS hSw; (try dsimp only at hSw); (try go_split_ands); go_simp; try with_reducible rfl
                  try simp only [List.getElem_toArray, List.getElem_cons_succ, List.getElem_cons_zero, Act.put, List.setIfInBounds_toArray, List.set_cons_zero, List.set_cons_succ]
                  refine tkO 6 ?_ rfl (by kernel_rfl) (fun _ _ _ h => h) ⟨by rfl, ?_⟩ hHeld ?_; rotate_left
                  · intro wS hSw; (try dsimp only at hSw); (try go_split_ands); go_simp; try with_reducible rfl
                  try simp only [List.getElem_toArray, List.getElem_cons_succ, List.getElem_cons_zero, Act.put, List.setIfInBounds_toArray, List.set_cons_zero, List.set_cons_succ]
                  refine tsO 7 rfl (by kernel_rfl) (fun _ _ _ h => h) ⟨by rfl, rfl⟩ hHeld ?_
                  try simp only [List.getElem_toArray, List.getElem_cons_succ, List.getElem_cons_zero, Act.put, List.setIfInBounds_toArray, List.set_cons_zero, List.set_cons_succ]
                  refine tsO 8 rfl (by kernel_rfl) (fun _ _ _ h => h) ⟨by rfl, rfl⟩ hHeld ?_
                  try simp only [List.getElem_toArray, List.getElem_cons_succ, List.getElem_cons_zero, Act.put, List.setIfInBounds_toArray, List.set_cons_zero, List.set_cons_succ]
                  refine tsO 9 rfl (by kernel_rfl) (fun _ _ _ h => h) ⟨by rfl, rfl⟩ hHeld ?_
                  try simp only [List.getElem_toArray, List.getElem_cons_succ, List.getElem_cons_zero, Act.put, List.setIfInBounds_toArray, List.set_cons_zero, List.set_cons_succ]
                  refine tsO 10 rfl (by kernel_rfl) (fun _ _ _ h => h) ⟨by rfl, rfl⟩ hHeld ?_
                  try simp only [List.getElem_toArray, List.getElem_cons_succ, List.getElem_cons_zero, Act.put, List.setIfInBounds_toArray, List.set_cons_zero, List.set_cons_succ]
                  refine tsO 11 rfl (by kernel_rfl) (fun _ _ _ h => h) ⟨by rfl, rfl⟩ hHeld ?_
                  try simp only [List.getElem_toArray, List.getElem_cons_succ, List.getElem_cons_zero, Act.put, List.setIfInBounds_toArray, List.set_cons_zero, List.set_cons_succ]
                  refine tsO 12 rfl (by kernel_rfl) (fun _ _ _ h => h) ⟨by rfl, rfl⟩ hHeld ?_
                  try simp only [List.getElem_toArray, List.getElem_cons_succ, List.getElem_cons_zero, Act.put, List.setIfInBounds_toArray, List.set_cons_zero, List.set_cons_succ]
                  refine tsO 13 rfl (by kernel_rfl) (fun _ _ _ h => h) ⟨by rfl, rfl⟩ hHeld ?_
                  try simp only [List.getElem_toArray, List.getElem_cons_succ, List.getElem_cons_zero, Act.put, List.setIfInBounds_toArray, List.set_cons_zero, List.set_cons_succ]
                  refine tsO 14 rfl (by kernel_rfl) (fun _ _ _ h => h) ⟨by rfl, rfl⟩ hHeld ?_
                  try simp only [List.getElem_toArray, List.getElem_cons_succ, List.getElem_cons_zero, Act.put, List.setIfInBounds_toArray, List.set_cons_zero, List.set_cons_succ]
                  refine tkO 15 ?_ rfl (by kernel_rfl) (fun _ _ _ h => h) ⟨by rfl, ?_⟩ hHeld ?_; rotate_left
                  · intro wS hSw; (try dsimp only at hSw); (try go_split_ands); go_simp; try with_reducible rfl
                  try simp only [List.getElem_toArray, List.getElem_cons_succ, List.getElem_cons_zero, Act.put, List.setIfInBounds_toArray, List.set_cons_zero, List.set_cons_succ]
                  refine wpAnyH_done (by kernel_rfl) ?_ _
                  clear hw4
                  have HBY := Lib.hid hHeld.2.2.2.2.2.2.2.2.2.2.2.2.2
                  clear hHeld
                  go_wp2_with (fail)
                  go_roundw
                  case rel => exact ⟨n + 1, ao7, cp7, by have := HL2.out; omega, by go_num, by rw [HNX.out], by rw [HNX.out]; exact HP8.out.below HBY.out, HT.out, HIF2.out, HQ8.out.keep HBY.out, pb2 HB8.out HBY.out⟩
                  case measure => have := HL2.out; simp [intOf]; omega
                · have hgd : decide (0 ≤ g) = true := decide_eq_true hg
                  obtain ⟨E, hE⟩ : ∃ E : Bool, decide (AdEq A ⟨ae, ao, ak, av, an, ap⟩) = E := ⟨_, rfl⟩
                  have cs := fun W h1 h2 => rsame_ans A ⟨ae, ao, ak, av, an, ap⟩ aa pa ca pc W h1 h2 E hE
                  have HTE2 := Lib.hid (show tel m (dn L l) n ↔ E = true from HTE.out.trans (by rw [← hE]; exact ⟨fun h => decide_eq_true (by rw [h hg]; exact AdEq.refl _), fun h _ => by
                    obtain ⟨h1, h2, ⟨h3, h4⟩, h5, h6⟩ := of_decide_eq_true h
                    cases A
                    simp only at h1 h2 h3 h4 h5 h6
                    subst h1 h2 h3 h4 h5 h6
                    rfl⟩))
                  unfold Ad.val at cs
                  dsimp only at cs
                  clear hE hg HTE HG
                  have hw4 : IntKind.i64.wrap (j : Int) = (j : Int) := (wrapEqP _).trans (by unfold wrap64; omega)
                  refine wp_region_held_drew (S := fun W => W.cell? ⟨bd, oo + j * 13 + 2, none⟩ = some (.int .i64 g) ∧ W.cell? ⟨bd, oo + j * 13 + 7, none⟩ = some (.int .i64 ae) ∧ W.cell? ⟨bd, oo + j * 13 + 8, none⟩ = some (.bool ao) ∧ W.cell? ⟨bd, oo + j * 13 + 9, none⟩ = some (.int .i64 ak) ∧ W.cell? ⟨bd, oo + j * 13 + 10, none⟩ = some (.int .i64 av) ∧ W.cell? ⟨bd, oo + j * 13 + 11, none⟩ = some (.int .i64 an) ∧ W.cell? ⟨bd, oo + j * 13 + 12, none⟩ = some (.slice pa ap.length pc) ∧ W.cell? ⟨w6.heap.size, 0, none⟩ = some (.int .i64 A.err) ∧ W.cell? ⟨w6.heap.size, 1, none⟩ = some (.bool A.ok) ∧ W.cell? ⟨w6.heap.size, 2, none⟩ = some (.int .i64 A.k) ∧ W.cell? ⟨w6.heap.size, 3, none⟩ = some (.int .i64 A.v) ∧ W.cell? ⟨w6.heap.size, 4, none⟩ = some (.int .i64 A.n) ∧ W.cell? ⟨w6.heap.size, 5, none⟩ = some (.slice aa A.ps.length ca) ∧ Below W8.heap.size W8 W) (by kernel_rfl) (by first | exact ⟨c2, c7, c8, c9, c10, c11, c12, z0, z1, z2, z3, z4, z5, Below.refl _ _⟩ | exact ⟨c2, c7, c8, c9, c10, c11, c12, z0, z1, z2, z3, z4, z5, (Below.refl _ _).drew⟩) (fun hHeld => ?_)
                  refine tkO 0 ?_ rfl (by kernel_rfl) (fun _ _ _ h => h) ⟨by rfl, ?_⟩ hHeld ?_; rotate_left
                  · intro wS hSw; (try dsimp only at hSw); (try go_split_ands); go_simp; try with_reducible rfl
                  try simp only [List.getElem_toArray, List.getElem_cons_succ, List.getElem_cons_zero, Act.put, List.setIfInBounds_toArray, List.set_cons_zero, List.set_cons_succ]
                  refine tkO 1 ?_ rfl (by kernel_rfl) (fun _ _ _ h => h) ⟨by rfl, ?_⟩ hHeld ?_; rotate_left
                  · intro wS hSw; (try dsimp only at hSw); (try go_split_ands); go_simp; try with_reducible rfl
                  try simp only [List.getElem_toArray, List.getElem_cons_succ, List.getElem_cons_zero, Act.put, List.setIfInBounds_toArray, List.set_cons_zero, List.set_cons_succ]
                  refine tkO 2 ?_ rfl (by kernel_rfl) (fun _ _ _ h => h) ⟨by rfl, ?_⟩ hHeld ?_; rotate_left
                  · intro wS hSw; (try dsimp only at hSw); (try go_split_ands); go_simp; try with_reducible rfl
                  try simp only [List.getElem_toArray, List.getElem_cons_succ, List.getElem_cons_zero, Act.put, List.setIfInBounds_toArray, List.set_cons_zero, List.set_cons_succ]
                  refine tkO 3 ?_ rfl (by kernel_rfl) (fun _ _ _ h => h) ⟨by rfl, ?_⟩ hHeld ?_; rotate_left
                  · intro wS hSw; (try dsimp only at hSw); (try go_split_ands); go_simp; try with_reducible rfl
                  try simp only [List.getElem_toArray, List.getElem_cons_succ, List.getElem_cons_zero, Act.put, List.setIfInBounds_toArray, List.set_cons_zero, List.set_cons_succ]
                  refine tkO 4 ?_ rfl (by kernel_rfl) (fun _ _ _ h => h) ⟨by rfl, ?_⟩ hHeld ?_; rotate_left
                  · intro wS hSw; (try dsimp only at hSw); (try go_split_ands); go_simp; try with_reducible rfl
                  try simp only [List.getElem_toArray, List.getElem_cons_succ, List.getElem_cons_zero, Act.put, List.setIfInBounds_toArray, List.set_cons_zero, List.set_cons_succ]
                  refine tkO 5 ?_ rfl (by kernel_rfl) (fun _ _ _ h => h) ⟨by rfl, ?_⟩ hHeld ?_; rotate_left
                  · intro wS hSw; (try dsimp only at hSw); (try go_split_ands); go_simp; try with_reducible rfl
                  try simp only [List.getElem_toArray, List.getElem_cons_succ, List.getElem_cons_zero, Act.put, List.setIfInBounds_toArray, List.set_cons_zero, List.set_cons_succ]
                  refine tkO 6 ?_ rfl (by kernel_rfl) (fun _ _ _ h => h) ⟨by rfl, ?_⟩ hHeld ?_; rotate_left
                  · intro wS hSw; (try dsimp only at hSw); (try go_split_ands); go_simp; try with_reducible rfl
                  try simp only [List.getElem_toArray, List.getElem_cons_succ, List.getElem_cons_zero, Act.put, List.setIfInBounds_toArray, List.set_cons_zero, List.set_cons_succ]
                  refine tkO 7 ?_ rfl (by kernel_rfl) (fun _ _ _ h => h) ⟨by rfl, ?_⟩ hHeld ?_; rotate_left
                  · intro wS hSw; (try dsimp only at hSw); (try go_split_ands); go_simp; try with_reducible rfl
                  try simp only [List.getElem_toArray, List.getElem_cons_succ, List.getElem_cons_zero, Act.put, List.setIfInBounds_toArray, List.set_cons_zero, List.set_cons_succ]
                  refine tkO 8 ?_ rfl (by kernel_rfl) (fun _ _ _ h => h) ⟨by rfl, ?_⟩ hHeld ?_; rotate_left
                  · intro wS hSw; (try dsimp only at hSw); (try go_split_ands); go_simp; try with_reducible rfl
                  try simp only [List.getElem_toArray, List.getElem_cons_succ, List.getElem_cons_zero, Act.put, List.setIfInBounds_toArray, List.set_cons_zero, List.set_cons_succ]
                  refine tkO 9 ?_ rfl (by kernel_rfl) (fun _ _ _ h => h) ⟨by rfl, ?_⟩ hHeld ?_; rotate_left
                  · intro wS hSw; (try dsimp only at hSw); (try go_split_ands); go_simp; try with_reducible rfl
                  try simp only [List.getElem_toArray, List.getElem_cons_succ, List.getElem_cons_zero, Act.put, List.setIfInBounds_toArray, List.set_cons_zero, List.set_cons_succ]
                  refine tkO 10 ?_ rfl (by kernel_rfl) (fun _ _ _ h => h) ⟨by rfl, ?_⟩ hHeld ?_; rotate_left
                  · intro wS hSw; (try dsimp only at hSw); (try go_split_ands); go_simp; try with_reducible rfl
                  try simp only [List.getElem_toArray, List.getElem_cons_succ, List.getElem_cons_zero, Act.put, List.setIfInBounds_toArray, List.set_cons_zero, List.set_cons_succ]
                  refine tkO 11 ?_ rfl (by kernel_rfl) (fun _ _ _ h => h) ⟨by rfl, ?_⟩ hHeld ?_; rotate_left
                  · intro wS hSw; (try dsimp only at hSw); (try go_split_ands); go_simp; try with_reducible rfl
                  try simp only [List.getElem_toArray, List.getElem_cons_succ, List.getElem_cons_zero, Act.put, List.setIfInBounds_toArray, List.set_cons_zero, List.set_cons_succ]
                  refine tkO 12 ?_ rfl (by kernel_rfl) (fun _ _ _ h => h) ⟨by rfl, ?_⟩ hHeld ?_; rotate_left
                  · intro wS hSw; (try dsimp only at hSw); (try go_split_ands); go_simp; try with_reducible rfl
                  try simp only [List.getElem_toArray, List.getElem_cons_succ, List.getElem_cons_zero, Act.put, List.setIfInBounds_toArray, List.set_cons_zero, List.set_cons_succ]
                  refine wpAnyH_ready (rs := [13]) (by kernel_rfl) (by simp) ?_
                  refine AllReadyH.cons rfl (fun K hK => ?_) AllReadyH.nil
                  go_simp
                  (go_at_call 35; ((with_reducible refine (cs _ (HPA.out.below hHeld.2.2.2.2.2.2.2.2.2.2.2.2.2) (HPC.out.below hHeld.2.2.2.2.2.2.2.2.2.2.2.2.2)).mono ?_); rintro e Y ⟨rfl, hbY⟩))
                  refine hK.out _ _ ?_ (fun hNext => ?_)
                  · exact ⟨pkc hbY hHeld.1, pkc hbY hHeld.2.1, pkc hbY hHeld.2.2.1, pkc hbY hHeld.2.2.2.1, pkc hbY hHeld.2.2.2.2.1, pkc hbY hHeld.2.2.2.2.2.1, pkc hbY hHeld.2.2.2.2.2.2.1, pkc hbY hHeld.2.2.2.2.2.2.2.1, pkc hbY hHeld.2.2.2.2.2.2.2.2.1, pkc hbY hHeld.2.2.2.2.2.2.2.2.2.1, pkc hbY hHeld.2.2.2.2.2.2.2.2.2.2.1, pkc hbY hHeld.2.2.2.2.2.2.2.2.2.2.2.1, pkc hbY hHeld.2.2.2.2.2.2.2.2.2.2.2.2.1, pb2 hHeld.2.2.2.2.2.2.2.2.2.2.2.2.2 hbY⟩
                  clear hbY
                  clear hK K hHeld
                  have hHeld := hNext
                  clear hNext
                  try simp only [List.getElem_toArray, List.getElem_cons_succ, List.getElem_cons_zero, Act.put, List.setIfInBounds_toArray, List.set_cons_zero, List.set_cons_succ]
                  refine tkO 14 ?_ rfl (by kernel_rfl) (fun _ _ _ h => h) ⟨by rfl, ?_⟩ hHeld ?_; rotate_left
                  · intro wS hSw; (try dsimp only at hSw); (try go_split_ands); go_simp; try with_reducible rfl
                  try simp only [List.getElem_toArray, List.getElem_cons_succ, List.getElem_cons_zero, Act.put, List.setIfInBounds_toArray, List.set_cons_zero, List.set_cons_succ]
                  refine tkO 15 ?_ rfl (by kernel_rfl) (fun _ _ _ h => h) ⟨by rfl, ?_⟩ hHeld ?_; rotate_left
                  · intro wS hSw; (try dsimp only at hSw); (try go_split_ands); go_simp; try with_reducible rfl
                  try simp only [List.getElem_toArray, List.getElem_cons_succ, List.getElem_cons_zero, Act.put, List.setIfInBounds_toArray, List.set_cons_zero, List.set_cons_succ]
                  refine wpAnyH_done (by kernel_rfl) ?_ _
                  clear hw4
                  have HBY := Lib.hid hHeld.2.2.2.2.2.2.2.2.2.2.2.2.2
                  clear hHeld
                  cases E
                  · have hBf : Hid (B = false) := Lib.hid (by
                      cases B
                      · rfl
                      · have h2 := HTE2.out.1 ((HBB.out.1 rfl).tl n HL2.out)
                        cases h2)
                    go_wp2_with (fail)
                    refine bodyPost_ret (v := .tuple #[.slice none 0 0, .bool false]) (by simp [results, Try.results28, go_sem]) rfl (HNO.out _ hBf.out (pb2 HB3.out (pb2 HB8.out HBY.out)) _ rfl)
                  · have HT := Lib.hid (tls_step.2 ⟨HTL.out, HTE2.out.2 rfl⟩)
                    go_wp2_with (fail)
                    go_roundw
                    case rel => exact ⟨n + 1, ao7, cp7, by have := HL2.out; omega, by go_num, by rw [HNX.out], by rw [HNX.out]; exact HP8.out.below HBY.out, HT.out, HIF2.out, HQ8.out.keep HBY.out, pb2 HB8.out HBY.out⟩
                    case measure => have := HL2.out; simp [intOf]; omega
          · obtain rfl : n = l.length := by omega
            have HBM := Lib.hid (HBB.out.trans (show Rgt m L l ↔ mstN L l L.length from ⟨fun h => (nms_of HNM.out).1 h.nm, fun h => ⟨(nms_of HNM.out).2 h, inF_all.1 HIF.out, HTL.out⟩⟩))
            go_wp2_with (fail)
            obtain ⟨w10, rfl⟩ : ∃ w10, w10 = wr := ⟨_, rfl⟩
            go_loopw [125] (fun i wr => ∃ n : Nat, n ≤ L.length ∧ i = .int .i64 n ∧ mstN L l n ∧ Below w10.heap.size w10 wr) (fun i _ => L.length - (intOf i).toNat)
            case atStart => exact ⟨0, Nat.zero_le _, rfl, fun i hi => by omega, Below.refl _ _⟩
            case round =>
              obtain ⟨n, hnl, rfl, hms, hbq⟩ := hrel
              have HMS := Lib.hid hms
              have HBR := Lib.hid hbq
              clear hms hbq
              by_cases hlt : n < L.length
              · obtain ⟨c, hcm⟩ : ∃ c, L[n]? = some c := ⟨_, List.getElem?_eq_getElem hlt⟩
                obtain ⟨bd, oo, pa, pc, rfl, hca0⟩ := HC3.out.2.2 n _ hcm
                have hca := hca0.keep (pb2 HBE.out HBR.out)
                obtain ⟨c0, c1, c2, c3, c4, c5, c6, c7, c8, c9, c10, c11, c12⟩ := hca.ex
                have hgd : L.getD n zCl = c := by rw [List.getD_eq_getElem?_getD, hcm]; rfl
                have HST := Lib.hid (mst_step (L := L) (l := l) (n := n))
                rw [hgd] at HST
                have hn0 : (0 : Int) ≤ (n : Int) := Int.natCast_nonneg n
                have hnI : (n : Int) < (L.length : Int) := Int.ofNat_lt.2 hlt
                have HQR := Lib.hid (HBQ.out.keep HBR.out)
                have hf0 := HQR.out.at_ n _ (vtv_get hlt)
                have HFN := Lib.hid (HNM.out.is n hlt)
                try dsimp only at hf0
                have hfl : w3.heap.size < wr.heap.size := HQR.out.lt
                have hne1 : ¬ w3.heap.size = wr.heap.size := by omega
                have HLT := Lib.hid hlt
                have hba := pal (w := wr) (.cells (clC c pa pc).toArray 59)
                have hf1 := pkc hba hf0
                have HBA := Lib.hid hba
                clear hcm hca0 hca hgd hba
                by_cases hg : 0 ≤ c.g
                · obtain ⟨E, hE⟩ : ∃ E : Bool, decide (rfd c) = E := ⟨_, rfl⟩
                  have cf := fun W => rref_any c pa pc W E hE
                  cases E
                  · have HMU := Lib.hid (show must c from ⟨hg, Decidable.byContradiction fun x => of_decide_eq_false hE ⟨hg, x⟩⟩)
                    clear hE
                    by_cases hF : F n = 0
                    · have hBf : Hid (B = false) := Lib.hid (by
                        cases B
                        · rfl
                        · have h2 := HST.out.1 (fun i hi => HBM.out.1 rfl i (by have := HLT.out; omega))
                          have h3 := h2.2 HMU.out
                          rw [HFN.out.1 hF] at h3
                          cases h3)
                      rw [hF] at hf1
                      clear hF hf0
                      obtain ⟨t, f, g, ⟨oc, ok, oh, ov⟩, ⟨ae, ao, ak, av, an, ap⟩⟩ := c
                      unfold clV at cf
                      unfold clC at hf1 HBA
                      dsimp only at c0 c1 c2 c3 c4 c5 c6 c7 c8 c9 c10 c11 c12 cf hg hf1 HBA
                      go_wp2_with (first
                        | (go_at_call 59; ((with_reducible refine (cf _).mono ?_); clear cf; rintro e w6 ⟨rfl, hb6⟩; have hf6 := pkc hb6 hf1; have HB6 := Lib.hid (pb2 HBA.out hb6); clear hb6 hf1))
                        | fail)
                      refine bodyPost_ret (v := .tuple #[.slice none 0 0, .bool false]) (by simp [results, Try.results28, go_sem]) rfl (HNO.out _ hBf.out (pb2 HB3.out (pb2 HBE.out (pb2 HBR.out HB6.out))) _ rfl)
                    · have hFb : (F n == 0) = false := by simpa using hF
                      have HNX := Lib.hid (HST.out.2 ⟨HMS.out, fun _ => by
                        cases k : nmB l n
                        · exact absurd (HFN.out.2 k) hF
                        · rfl⟩)
                      clear hF hf0
                      obtain ⟨t, f, g, ⟨oc, ok, oh, ov⟩, ⟨ae, ao, ak, av, an, ap⟩⟩ := c
                      unfold clV at cf
                      unfold clC at hf1 HBA
                      dsimp only at c0 c1 c2 c3 c4 c5 c6 c7 c8 c9 c10 c11 c12 cf hg hf1 HBA
                      go_wp2_with (first
                        | (go_at_call 59; ((with_reducible refine (cf _).mono ?_); clear cf; rintro e w6 ⟨rfl, hb6⟩; have hf6 := pkc hb6 hf1; have HB6 := Lib.hid (pb2 HBA.out hb6); clear hb6 hf1))
                        | fail)
                      go_roundw
                      case rel => exact ⟨n + 1, by have := HLT.out; omega, by go_num, HNX.out, pb2 HBR.out HB6.out⟩
                      case measure => have := HLT.out; simp [intOf]; omega
                  · have HNX := Lib.hid (HST.out.2 ⟨HMS.out, fun h => absurd h.2 (of_decide_eq_true hE).2⟩)
                    clear hE hf0
                    obtain ⟨t, f, g, ⟨oc, ok, oh, ov⟩, ⟨ae, ao, ak, av, an, ap⟩⟩ := c
                    unfold clV at cf
                    unfold clC at hf1 HBA
                    dsimp only at c0 c1 c2 c3 c4 c5 c6 c7 c8 c9 c10 c11 c12 cf hg hf1 HBA
                    go_wp2_with (first
                      | (go_at_call 59; ((with_reducible refine (cf _).mono ?_); clear cf; rintro e w6 ⟨rfl, hb6⟩; have HB6 := Lib.hid (pb2 HBA.out hb6); clear hb6))
                      | fail)
                    go_roundw
                    case rel => exact ⟨n + 1, by have := HLT.out; omega, by go_num, HNX.out, pb2 HBR.out HB6.out⟩
                    case measure => have := HLT.out; simp [intOf]; omega
                · have HNX := Lib.hid (HST.out.2 ⟨HMS.out, fun h => absurd h.1 hg⟩)
                  have hgd : decide (0 ≤ c.g) = false := decide_eq_false hg
                  clear hg hf0 hf1
                  obtain ⟨t, f, g, ⟨oc, ok, oh, ov⟩, ⟨ae, ao, ak, av, an, ap⟩⟩ := c
                  unfold clC at HBA
                  dsimp only at c0 c1 c2 c3 c4 c5 c6 c7 c8 c9 c10 c11 c12 hgd HBA
                  go_wp2_with (fail)
                  go_roundw
                  case rel => exact ⟨n + 1, by have := HLT.out; omega, by go_num, HNX.out, pb2 HBR.out HBA.out⟩
                  case measure => have := HLT.out; simp [intOf]; omega
              · obtain rfl : n = L.length := by omega
                have hBt : Hid (B = true) := Lib.hid (HBM.out.2 HMS.out)
                have hRt : Hid (R = stt m (dn L l) l.length) := Lib.hid (by rw [HR.out, if_pos hBt.out])
                go_wp2_with (fail)
                refine bodyPost_ret (v := .tuple #[.slice ao (stt m (dn L l) l.length).length cp, .bool true]) (by simp [results, Try.results28, go_sem]) rfl ?_
                exact ⟨ao, cp, by rw [hRt.out, hBt.out], by rw [hRt.out]; exact HPS.out.below HBR.out, pb2 HB3.out (pb2 HBE.out HBR.out)⟩

end Go.Proofs.Ytijepfabkalcoaa
