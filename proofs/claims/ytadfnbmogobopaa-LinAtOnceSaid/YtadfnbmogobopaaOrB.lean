/- order.names exactly; a row of cells by a function. No condition: lemmas. -/
import Derived.Test.YtadfnbmogobopaaOrA
namespace Go.Proofs.Ytadfnbmogobopaa
open Go.RowKit
set_option linter.all false
set_option maxRecDepth 20000

/-- Cells by a function. -/
def vtv (f : Nat → Value) (n : Nat) : List Value := (List.range n).map f
theorem vtv_len (f : Nat → Value) (n : Nat) : (vtv f n).length = n := by simp [vtv]
theorem vtv_get {f : Nat → Value} {n i : Nat} (h : i < n) : (vtv f n)[i]? = some (f i) := by
  unfold vtv; rw [List.getElem?_map, List.getElem?_range h]; rfl
theorem vtv_congr {f g : Nat → Value} {n : Nat} (h : ∀ j, j < n → f j = g j) : vtv f n = vtv g n := by
  unfold vtv; exact List.map_congr_left (fun j hj => h j (List.mem_range.1 hj))
theorem vtv_set (f : Nat → Value) (n i : Nat) (v : Value) : (vtv f n).set i v = vtv (fun j => if j = i then v else f j) n := by
  apply List.ext_getElem?
  intro j
  rw [List.getElem?_set, vtv_len]
  rcases Nat.lt_or_ge j n with h | h
  · rw [vtv_get h, vtv_get h]
    by_cases e : i = j
    · subst e; rw [if_pos rfl, if_pos h, if_pos rfl]
    · rw [if_neg e, if_neg (fun x => e x.symm)]
  · rw [List.getElem?_eq_none (l := vtv f n) (by rw [vtv_len]; exact h), List.getElem?_eq_none (l := vtv _ n) (by rw [vtv_len]; exact h)]
    by_cases e : i = j
    · subst e; rw [if_pos rfl, if_neg (by omega)]
    · rw [if_neg e]
theorem vtv_const (v : Value) (n : Nat) : List.replicate n v = vtv (fun _ => v) n := by
  apply List.ext_getElem?
  intro j
  rcases Nat.lt_or_ge j n with h | h
  · rw [vtv_get h, List.getElem?_replicate, if_pos h]
  · rw [List.getElem?_eq_none (by simpa using h), List.getElem?_eq_none (by rw [vtv_len]; exact h)]
theorem infoBool : (Try.prog.info? 4).map (fun i => (i.zero, i.size, i.bytes)) = some (some (.bool false), 1, 1) := by kernel_rfl
def mkBs (n : Nat) : Array Value := madeCells #[.bool false] n
def mkIs (n : Nat) : Array Value := madeCells #[.int .i64 0] n
theorem mkBs_run (n : Nat) (h : n ≤ 2000) (w : World) : (Instr.makeSlice 105 (.int .i64 (n : Int)) (.int .i64 (n : Int))).run Try.prog w = .ok (.slice (some ⟨w.heap.size, 0, none⟩) n n) (w.alloc (.cells (mkBs n) 4)) := by
  obtain ⟨i, hi, hz, hs1, hs2⟩ := info_parts infoBool
  have hr := run_make (P := Try.prog) w 105 4 i _ Try.underlying105 hi hz .i64 .i64 n n (by omega) (Int.le_refl _) (by rw [hs2]; omega) (by omega)
  rw [hs1] at hr
  simpa [mkBs, Value.cells] using hr
theorem mkIs_run (n : Nat) (h : n ≤ 2000) (w : World) : (Instr.makeSlice 40 (.int .i64 (n : Int)) (.int .i64 (n : Int))).run Try.prog w = .ok (.slice (some ⟨w.heap.size, 0, none⟩) n n) (w.alloc (.cells (mkIs n) 3)) := by
  obtain ⟨i, hi, hz, hs1, hs2⟩ := info_parts infoInt
  have hr := run_make (P := Try.prog) w 40 3 i _ Try.underlying40 hi hz .i64 .i64 n n (by omega) (Int.le_refl _) (by rw [hs2]; omega) (by omega)
  rw [hs1] at hr
  simpa [mkIs, Value.cells] using hr
theorem mkBs_new (W : World) (n : Nat) : Bq (W.alloc (.cells (mkBs n) 4)) W.heap.size (vtv (fun _ => .bool false) n) := by
  have h := Bq.new W (mkBs n) 4
  rwa [show (mkBs n).toList = vtv (fun _ => .bool false) n by unfold mkBs; rw [toList_madeCells_one, vtv_const]] at h
theorem mkIs_new (W : World) (n : Nat) : Bq (W.alloc (.cells (mkIs n) 3)) W.heap.size (vtv (fun _ => .int .i64 0) n) := by
  have h := Bq.new W (mkIs n) 3
  rwa [show (mkIs n).toList = vtv (fun _ => .int .i64 0) n by unfold mkIs; rw [toList_madeCells_one, vtv_const]] at h
attribute [local go_sem] mkBs_run

/-- Whether so many first places name the call. -/
def nmB (l : List Int) (j : Nat) : Bool := decide ((j : Int) ∈ l)
theorem nmB_snoc (l : List Int) (i j : Nat) : nmB (l ++ [(i : Int)]) j = (if j = i then true else nmB l j) := by
  unfold nmB
  by_cases e : j = i
  · subst e; rw [if_pos rfl]; simp
  · rw [if_neg e]
    have : ¬ (j : Int) = (i : Int) := by omega
    simp [this]
theorem ri_at {w : World} {a : Option Addr} {cap : Nat} {l : List Int} (h : RI w a cap l) {n : Nat} {x : Int} (hx : l[n]? = some x) : ∃ b o, a = some ⟨b, o, none⟩ ∧ w.cell? ⟨b, o + n, none⟩ = some (.int .i64 x) := h.2.2 n x hx
/-- No call that has returned is named just if it was refused. -/
def NmO (L : List ClD) (l : List Int) (n : Nat) : Prop := ∀ i, i < n → 0 ≤ (L.getD i zCl).g → ¬ (nmB l i = decide (¬ (L.getD i zCl).a.err = 0))
theorem nmO_step {L : List ClD} {l : List Int} {n : Nat} : NmO L l (n + 1) ↔ NmO L l n ∧ (0 ≤ (L.getD n zCl).g → ¬ (nmB l n = decide (¬ (L.getD n zCl).a.err = 0))) := by
  constructor
  · intro h; exact ⟨fun i hi => h i (by omega), h n (by omega)⟩
  · rintro ⟨h1, h2⟩ i hi
    rcases Nat.lt_or_ge i n with h | h
    · exact h1 i h
    · rw [show i = n by omega]; exact h2
theorem nms_iff {L : List ClD} {l : List Int} (h1 : ∀ i ∈ l, inR L i) (h2 : l.Nodup) : Nms L l ↔ NmO L l L.length := by
  have key : ∀ i : Nat, nmB l i = true ↔ (i : Int) ∈ l := fun i => by unfold nmB; exact decide_eq_true_iff
  constructor
  · intro h i hi hg e
    by_cases hz : (L.getD i zCl).a.err = 0
    · have := (key i).2 (h.all i hi ⟨hg, hz⟩)
      rw [this] at e
      rw [decide_eq_false (fun x => x hz)] at e
      cases e
    · have e2 : nmB l i = true := by rw [e]; exact decide_eq_true hz
      have := h.no _ ((key i).1 e2)
      unfold cAt at this
      rw [Int.toNat_natCast] at this
      exact this ⟨hg, hz⟩
  · intro h
    refine ⟨h1, h2, fun i hi hr => ?_, fun i hi hm => ?_⟩
    · have hr2 := h1 i hi
      unfold inR at hr2
      unfold cAt at hr
      have := h i.toNat (by omega) hr.1
      have e2 := (key i.toNat).2 (by rw [show ((i.toNat : Nat) : Int) = i by omega]; exact hi)
      exact this (by rw [e2]; exact (decide_eq_true hr.2).symm)
    · refine Decidable.byContradiction fun x => h i hi hm.1 ?_
      have e2 : nmB l i = false := by
        cases c : nmB l i
        · rfl
        · exact absurd ((key i).1 c) x
      rw [e2]; exact (decide_eq_false (fun y => y hm.2)).symm

set_option maxRecDepth 100000 in
set_option maxHeartbeats 12800000 in
theorem names_any (a a2 : Option Addr) (cap cap2 : Nat) (L : List ClD) (l : List Int) (w : World) (hL : Cs w a cap L) (hl : RI w a2 cap2 l) (hn : L.length ≤ 300) (hn2 : l.length ≤ 300) (B : Bool) (hB : B = true ↔ Nms L l) :
    Calls Try.prog 43 #[.slice a L.length cap, .slice a2 l.length cap2] w fun e w' => e = .returned (.bool B) ∧ Below w.heap.size w w' := by
  have HC := Lib.hid hL
  have HI := Lib.hid hl
  have HBB := Lib.hid hB
  have hc1 := hL.1
  have hc2 := hL.2.1
  have hc3 := hl.1
  have hc4 := hl.2.1
  unfold maxLen at hc2 hc4
  have hmk : ∀ W : World, (Instr.makeSlice 105 (.int .i64 (L.length : Int)) (.int .i64 (L.length : Int))).run Try.prog W = .ok (.slice (some ⟨W.heap.size, 0, none⟩) L.length L.length) (W.alloc (.cells (mkBs L.length) 4)) := fun W => mkBs_run L.length (by omega) W
  have HN0 := Lib.hid (mkBs_new w L.length)
  have HB0 := Lib.hid (pal (w := w) (.cells (mkBs L.length) 4))
  clear hL hl hB
  go_enter Try.func43, Try.ntmps43
  go_wp2_with (fail)
  clear hmk
  generalize w.alloc (.cells (mkBs L.length) 4) = W1 at HN0 HB0 ⊢
  go_loopw [15] (fun i wr => ∃ n : Nat, n ≤ l.length ∧ i = .int .i64 n ∧ (∀ i ∈ l.take n, inR L i) ∧ (l.take n).Nodup ∧ Bq wr w.heap.size (vtv (fun j => .bool (nmB (l.take n) j)) L.length) ∧ Below w.heap.size w wr) (fun i _ => l.length - (intOf i).toNat)
  case atStart => exact ⟨0, Nat.zero_le _, rfl, fun i hi => by simp at hi, by simp, HN0.out, HB0.out⟩
  case round =>
    clear HN0 HB0
    obtain ⟨n, hnl, rfl, hin, hnd, hbq, hbe⟩ := hrel
    have HIN := Lib.hid hin
    have HND := Lib.hid hnd
    have HBQ := Lib.hid hbq
    have HBE := Lib.hid hbe
    by_cases hlt : n < l.length
    · obtain ⟨x, hx⟩ : ∃ x, l[n]? = some x := ⟨_, List.getElem?_eq_getElem hlt⟩
      obtain ⟨bi, oi, rfl, hxc⟩ := ri_at (HI.out.below hbe) hx
      have htk : l.take (n + 1) = l.take n ++ [x] := by rw [List.take_add_one, hx]; rfl
      have HTK := Lib.hid htk
      have HX := Lib.hid hx
      have HXM := Lib.hid (List.mem_of_getElem? hx)
      have hn0 : (0 : Int) ≤ (n : Int) := Int.natCast_nonneg n
      have hnI : (n : Int) < (l.length : Int) := Int.ofNat_lt.2 hlt
      clear hx htk hin hnd hbe
      by_cases h0 : x < 0
      · have hBf : Hid (B = false) := Lib.hid (by
          cases B
          · rfl
          · have := ((HBB.out.1 rfl).inr x HXM.out).1
            omega)
        clear hbq
        go_wp2_with (fail)
        go_ret
        exact ⟨by rw [hBf.out]; rfl, HBE.out⟩
      obtain ⟨j, rfl⟩ : ∃ j : Nat, x = (j : Int) := ⟨x.toNat, by omega⟩
      have hj0 : (0 : Int) ≤ (j : Int) := Int.natCast_nonneg j
      clear h0
      by_cases h1 : (L.length : Int) ≤ (j : Int)
      · have hBf : Hid (B = false) := Lib.hid (by
          cases B
          · rfl
          · have := ((HBB.out.1 rfl).inr _ HXM.out).2
            omega)
        have h1n : L.length ≤ j := by omega
        clear hbq
        go_wp2_with (fail)
        go_ret
        exact ⟨by rw [hBf.out]; rfl, HBE.out⟩
      have hjl : (j : Int) < (L.length : Int) := by omega
      have hjn : j < L.length := by omega
      have h1n : ¬ L.length ≤ j := by omega
      have hcj := HBQ.out.at_ j _ (vtv_get hjn)
      have hfj := HBQ.out.fr j
      try dsimp only at hcj
      clear h1 hbq
      cases hv : nmB (l.take n) j
      · rw [hv] at hcj
        have HV := Lib.hid hv
        clear hv
        go_wp2_with (fail)
        go_roundw
        case rel =>
          refine ⟨n + 1, by omega, by go_num, ?_, ?_, ?_, ?_⟩
          · rw [HTK.out]
            intro i hi
            rcases List.mem_append.1 hi with h | h
            · exact HIN.out i h
            · rw [List.mem_singleton.1 h]; exact ⟨hj0, hjl⟩
          · rw [HTK.out, List.nodup_append]
            refine ⟨HND.out, by simp, fun y hy z hz => ?_⟩
            rw [List.mem_singleton.1 hz]
            rintro rfl
            exact of_decide_eq_false HV.out hy
          · have := HBQ.out.set j (.bool true) (by rw [vtv_len]; exact hjn)
            rw [vtv_set] at this
            refine (congrArg (Bq _ _) (vtv_congr fun i _ => ?_)).mp this
            rw [HTK.out, nmB_snoc]
            split <;> rfl
          · exact Below.setCell HBE.out (Nat.le_refl _) _
        case measure => simp [intOf]; omega
      · rw [hv] at hcj
        have hBf : Hid (B = false) := Lib.hid (by
          cases B
          · rfl
          · have h2 := (HBB.out.1 rfl).nd
            have h3 : (l.take (n + 1)).Nodup := h2.sublist (List.take_sublist _ _)
            rw [HTK.out, List.nodup_append] at h3
            exact absurd rfl (h3.2.2 _ (of_decide_eq_true hv) _ (by simp)))
        clear hv
        go_wp2_with (fail)
        go_ret
        exact ⟨by rw [hBf.out]; rfl, HBE.out⟩
    · obtain rfl : n = l.length := by omega
      rw [List.take_of_length_le (Nat.le_refl _)] at HIN HND HBQ
      have HIFF := Lib.hid (HBB.out.trans (nms_iff HIN.out HND.out))
      clear hin hnd hbq hbe HBB HIN HND
      go_wp2_with (fail)
      have HB1 := Lib.hid HBE.out
      have HQ1 := Lib.hid HBQ.out
      generalize wr = W2 at HB1 HQ1 ⊢
      go_loopw [39] (fun i wr => ∃ n : Nat, n ≤ L.length ∧ i = .int .i64 n ∧ NmO L l n ∧ Bq wr w.heap.size (vtv (fun j => .bool (nmB l j)) L.length) ∧ Below w.heap.size w wr) (fun i _ => L.length - (intOf i).toNat)
      case atStart => exact ⟨0, Nat.zero_le _, rfl, fun i hi => by omega, HQ1.out, HB1.out⟩
      case round =>
        clear HB1 HQ1 HBQ HBE
        obtain ⟨n, hnl, rfl, hno, hbq, hbe⟩ := hrel
        have HNO := Lib.hid hno
        have HBQ := Lib.hid hbq
        have HBE := Lib.hid hbe
        by_cases hlt : n < L.length
        · obtain ⟨m, hm⟩ : ∃ m, L[n]? = some m := ⟨_, List.getElem?_eq_getElem hlt⟩
          obtain ⟨b, oo, pa, pc, rfl, hca⟩ := (HC.out.keep hbe).2.2 n m hm
          obtain ⟨c0, c1, c2, c3, c4, c5, c6, c7, c8, c9, c10, c11, c12⟩ := hca.ex
          have hn0 : (0 : Int) ≤ (n : Int) := Int.natCast_nonneg n
          have hnI : (n : Int) < (L.length : Int) := Int.ofNat_lt.2 hlt
          have hgd : L.getD n zCl = m := by rw [List.getD_eq_getElem?_getD, hm]; rfl
          have HGD := Lib.hid hgd
          have hbn := pkc (pal (w := wr) (.cells (clC m pa pc).toArray 71)) (hbq.at_ n _ (vtv_get hlt))
          try dsimp only at hbn
          clear hm hca hgd hno hbq hbe
          by_cases hg : 0 ≤ m.g
          · obtain ⟨F, hF⟩ : ∃ F : Bool, decide (¬ m.a.err = 0) = F := ⟨_, rfl⟩
            obtain ⟨V, hV⟩ : ∃ V : Bool, nmB l n = V := ⟨_, rfl⟩
            have cr := fun W => oret_any m pa pc W true (decide_eq_true hg)
            have cf := fun W => oref_any m pa pc W F hF
            have HST : Hid (NmO L l (n + 1) ↔ (V == F) = false) := Lib.hid (by
              rw [nmO_step, HGD.out]
              constructor
              · intro h
                have := h.2 hg
                rw [hF, hV] at this
                simpa using this
              · intro h
                refine ⟨HNO.out, fun _ => ?_⟩
                rw [hF, hV]
                simpa using h)
            clear hF hg
            obtain ⟨t, f, g, ⟨oc, ok, oh, ov⟩, ⟨ae, ao, ak, av, an, ap⟩⟩ := m
            unfold clV at cr cf
            unfold clC at hbn
            dsimp only at c0 c1 c2 c3 c4 c5 c6 c7 c8 c9 c10 c11 c12 cr cf hbn
            have HBA := Lib.hid (pal (w := wr) (.cells #[.int .i64 t, .int .i64 f, .int .i64 g, .int .i64 oc, .int .i64 ok, .int .i64 oh, .int .i64 ov, .int .i64 ae, .bool ao, .int .i64 ak, .int .i64 av, .int .i64 an, .slice pa ap.length pc] 71))
            have HBQ2 := Lib.hid (HBQ.out.keep HBA.out)
            go_wp2_with (fail)
            have h13 := Bq.new wr #[.int .i64 t, .int .i64 f, .int .i64 g, .int .i64 oc, .int .i64 ok, .int .i64 oh, .int .i64 ov, .int .i64 ae, .bool ao, .int .i64 ak, .int .i64 av, .int .i64 an, .slice pa ap.length pc] 71
            have q0 := h13.at_ 0 _ rfl
            have q1 := h13.at_ 1 _ rfl
            have q2 := h13.at_ 2 _ rfl
            have q3 := h13.at_ 3 _ rfl
            have q4 := h13.at_ 4 _ rfl
            have q5 := h13.at_ 5 _ rfl
            have q6 := h13.at_ 6 _ rfl
            have q7 := h13.at_ 7 _ rfl
            have q8 := h13.at_ 8 _ rfl
            have q9 := h13.at_ 9 _ rfl
            have q10 := h13.at_ 10 _ rfl
            have q11 := h13.at_ 11 _ rfl
            have q12 := h13.at_ 12 _ rfl
            clear h13 c0 c1 c2 c3 c4 c5 c6 c7 c8 c9 c10 c11 c12
            refine wp_region_held_drew (S := fun W => W.cell? ⟨wr.heap.size, 0, none⟩ = some (.int .i64 t) ∧ W.cell? ⟨wr.heap.size, 1, none⟩ = some (.int .i64 f) ∧ W.cell? ⟨wr.heap.size, 2, none⟩ = some (.int .i64 g) ∧ W.cell? ⟨wr.heap.size, 3, none⟩ = some (.int .i64 oc) ∧ W.cell? ⟨wr.heap.size, 4, none⟩ = some (.int .i64 ok) ∧ W.cell? ⟨wr.heap.size, 5, none⟩ = some (.int .i64 oh) ∧ W.cell? ⟨wr.heap.size, 6, none⟩ = some (.int .i64 ov) ∧ W.cell? ⟨wr.heap.size, 7, none⟩ = some (.int .i64 ae) ∧ W.cell? ⟨wr.heap.size, 8, none⟩ = some (.bool ao) ∧ W.cell? ⟨wr.heap.size, 9, none⟩ = some (.int .i64 ak) ∧ W.cell? ⟨wr.heap.size, 10, none⟩ = some (.int .i64 av) ∧ W.cell? ⟨wr.heap.size, 11, none⟩ = some (.int .i64 an) ∧ W.cell? ⟨wr.heap.size, 12, none⟩ = some (.slice pa ap.length pc) ∧ W.cell? ⟨w.heap.size, n, none⟩ = some (.bool (nmB l n)) ∧ Below (wr.alloc (.cells #[.int .i64 t, .int .i64 f, .int .i64 g, .int .i64 oc, .int .i64 ok, .int .i64 oh, .int .i64 ov, .int .i64 ae, .bool ao, .int .i64 ak, .int .i64 av, .int .i64 an, .slice pa ap.length pc] 71)).heap.size (wr.alloc (.cells #[.int .i64 t, .int .i64 f, .int .i64 g, .int .i64 oc, .int .i64 ok, .int .i64 oh, .int .i64 ov, .int .i64 ae, .bool ao, .int .i64 ak, .int .i64 av, .int .i64 an, .slice pa ap.length pc] 71)) W) (by kernel_rfl) (by first | exact ⟨q0, q1, q2, q3, q4, q5, q6, q7, q8, q9, q10, q11, q12, hbn, Below.refl _ _⟩ | exact ⟨q0, q1, q2, q3, q4, q5, q6, q7, q8, q9, q10, q11, q12, hbn, (Below.refl _ _).drew⟩) (fun hHeld => ?_)
            refine tkO 0 ?_ rfl (by kernel_rfl) (fun _ _ _ h => h) ⟨by rfl, ?_⟩ hHeld ?_; rotate_left
            · intro wS hSw; (try dsimp only at hSw); (try go_split_ands); go_simp; try with_reducible rfl
            try simp only [List.getElem_toArray, List.getElem_cons_succ, List.getElem_cons_zero, Act.put, List.setIfInBounds_toArray, List.set_cons_zero, List.set_cons_succ]
            refine wpAnyH_ready (rs := [1]) (by kernel_rfl) (by simp) ?_
            refine AllReadyH.cons rfl (fun K hK => ?_) AllReadyH.nil
            go_simp
            (go_at_call 54; ((with_reducible refine (cr _).mono ?_); rintro e Y ⟨rfl, hbY⟩))
            refine hK.out _ _ ?_ (fun hNext => ?_)
            · exact ⟨pkc hbY hHeld.1, pkc hbY hHeld.2.1, pkc hbY hHeld.2.2.1, pkc hbY hHeld.2.2.2.1, pkc hbY hHeld.2.2.2.2.1, pkc hbY hHeld.2.2.2.2.2.1, pkc hbY hHeld.2.2.2.2.2.2.1, pkc hbY hHeld.2.2.2.2.2.2.2.1, pkc hbY hHeld.2.2.2.2.2.2.2.2.1, pkc hbY hHeld.2.2.2.2.2.2.2.2.2.1, pkc hbY hHeld.2.2.2.2.2.2.2.2.2.2.1, pkc hbY hHeld.2.2.2.2.2.2.2.2.2.2.2.1, pkc hbY hHeld.2.2.2.2.2.2.2.2.2.2.2.2.1, pkc hbY hHeld.2.2.2.2.2.2.2.2.2.2.2.2.2.1, pb2 hHeld.2.2.2.2.2.2.2.2.2.2.2.2.2.2 hbY⟩
            clear hbY
            clear hK K hHeld
            have hHeld := hNext
            clear hNext
            try simp only [List.getElem_toArray, List.getElem_cons_succ, List.getElem_cons_zero, Act.put, List.setIfInBounds_toArray, List.set_cons_zero, List.set_cons_succ]
            refine tkO 2 ?_ rfl (by kernel_rfl) (fun _ _ _ h => h) ⟨by rfl, ?_⟩ hHeld ?_; rotate_left
            · intro wS hSw; (try dsimp only at hSw); (try go_split_ands); go_simp; try with_reducible rfl
            try simp only [List.getElem_toArray, List.getElem_cons_succ, List.getElem_cons_zero, Act.put, List.setIfInBounds_toArray, List.set_cons_zero, List.set_cons_succ]
            refine tkO 3 ?_ rfl (by kernel_rfl) (fun _ _ _ h => h) ⟨by rfl, ?_⟩ hHeld ?_; rotate_left
            · intro wS hSw; (try dsimp only at hSw); (try go_split_ands); go_simp; try with_reducible rfl
            try simp only [List.getElem_toArray, List.getElem_cons_succ, List.getElem_cons_zero, Act.put, List.setIfInBounds_toArray, List.set_cons_zero, List.set_cons_succ]
            refine tkO 4 ?_ rfl (by kernel_rfl) (fun _ _ _ h => h) ⟨by rfl, ?_⟩ hHeld ?_; rotate_left
            · intro wS hSw; (try dsimp only at hSw); (try go_split_ands); go_simp; try with_reducible rfl
            try simp only [List.getElem_toArray, List.getElem_cons_succ, List.getElem_cons_zero, Act.put, List.setIfInBounds_toArray, List.set_cons_zero, List.set_cons_succ]
            refine tkO 5 ?_ rfl (by kernel_rfl) (fun _ _ _ h => h) ⟨by rfl, ?_⟩ hHeld ?_; rotate_left
            · intro wS hSw; (try dsimp only at hSw); (try go_split_ands); go_simp; try with_reducible rfl
            try simp only [List.getElem_toArray, List.getElem_cons_succ, List.getElem_cons_zero, Act.put, List.setIfInBounds_toArray, List.set_cons_zero, List.set_cons_succ]
            refine tkO 6 ?_ rfl (by kernel_rfl) (fun _ _ _ h => h) ⟨by rfl, ?_⟩ hHeld ?_; rotate_left
            · intro wS hSw; (try dsimp only at hSw); (try go_split_ands); go_simp; try with_reducible rfl
            try simp only [List.getElem_toArray, List.getElem_cons_succ, List.getElem_cons_zero, Act.put, List.setIfInBounds_toArray, List.set_cons_zero, List.set_cons_succ]
            refine tkO 7 ?_ rfl (by kernel_rfl) (fun _ _ _ h => h) ⟨by rfl, ?_⟩ hHeld ?_; rotate_left
            · intro wS hSw; (try dsimp only at hSw); (try go_split_ands); go_simp; try with_reducible rfl
            try simp only [List.getElem_toArray, List.getElem_cons_succ, List.getElem_cons_zero, Act.put, List.setIfInBounds_toArray, List.set_cons_zero, List.set_cons_succ]
            refine wpAnyH_ready (rs := [8]) (by kernel_rfl) (by simp) ?_
            refine AllReadyH.cons rfl (fun K hK => ?_) AllReadyH.nil
            go_simp
            (go_at_call 55; ((with_reducible refine (cf _).mono ?_); rintro e Y ⟨rfl, hbY⟩))
            refine hK.out _ _ ?_ (fun hNext => ?_)
            · exact ⟨pkc hbY hHeld.1, pkc hbY hHeld.2.1, pkc hbY hHeld.2.2.1, pkc hbY hHeld.2.2.2.1, pkc hbY hHeld.2.2.2.2.1, pkc hbY hHeld.2.2.2.2.2.1, pkc hbY hHeld.2.2.2.2.2.2.1, pkc hbY hHeld.2.2.2.2.2.2.2.1, pkc hbY hHeld.2.2.2.2.2.2.2.2.1, pkc hbY hHeld.2.2.2.2.2.2.2.2.2.1, pkc hbY hHeld.2.2.2.2.2.2.2.2.2.2.1, pkc hbY hHeld.2.2.2.2.2.2.2.2.2.2.2.1, pkc hbY hHeld.2.2.2.2.2.2.2.2.2.2.2.2.1, pkc hbY hHeld.2.2.2.2.2.2.2.2.2.2.2.2.2.1, pb2 hHeld.2.2.2.2.2.2.2.2.2.2.2.2.2.2 hbY⟩
            clear hbY
            clear hK K hHeld
            have hHeld := hNext
            clear hNext
            try simp only [List.getElem_toArray, List.getElem_cons_succ, List.getElem_cons_zero, Act.put, List.setIfInBounds_toArray, List.set_cons_zero, List.set_cons_succ]
            refine tkO 9 ?_ rfl (by kernel_rfl) (fun _ _ _ h => h) ⟨by rfl, ?_⟩ hHeld ?_; rotate_left
            · intro wS hSw; (try dsimp only at hSw); (try go_split_ands); go_simp; try with_reducible rfl
            try simp only [List.getElem_toArray, List.getElem_cons_succ, List.getElem_cons_zero, Act.put, List.setIfInBounds_toArray, List.set_cons_zero, List.set_cons_succ]
            refine tkO 10 ?_ rfl (by kernel_rfl) (fun _ _ _ h => h) ⟨by rfl, ?_⟩ hHeld ?_; rotate_left
            · intro wS hSw; (try dsimp only at hSw); (try go_split_ands); go_simp; try with_reducible rfl
            try simp only [List.getElem_toArray, List.getElem_cons_succ, List.getElem_cons_zero, Act.put, List.setIfInBounds_toArray, List.set_cons_zero, List.set_cons_succ]
            refine wpAnyH_done (by kernel_rfl) ?_ _
            have HE := Lib.hid (pb2 (pb2 HBE.out HBA.out) hHeld.2.2.2.2.2.2.2.2.2.2.2.2.2.2)
            have HQE := Lib.hid (HBQ2.out.keep hHeld.2.2.2.2.2.2.2.2.2.2.2.2.2.2)
            have HVV := Lib.hid hV
            clear hHeld q0 q1 q2 q3 q4 q5 q6 q7 q8 q9 q10 q11 q12 hV cr cf hbn
            generalize hVF : (V == F) = E at HST ⊢
            cases E
            · go_wp2_with (fail)
              go_roundw
              case rel => exact ⟨n + 1, by omega, by go_num, HST.out.2 rfl, HQE.out, HE.out⟩
              case measure => simp [intOf]; omega
            · have hBf : Hid (B = false) := Lib.hid (by
                cases B
                · rfl
                · have h2 := HIFF.out.1 rfl
                  have h3 : NmO L l (n + 1) := fun i hi => h2 i (by omega)
                  have h4 := HST.out.1 h3
                  cases h4)
              go_wp2_with (fail)
              go_ret
              exact ⟨by rw [hBf.out]; rfl, HE.out⟩
          · have cr := fun W => oret_any m pa pc W false (decide_eq_false hg)
            have HST : Hid (NmO L l (n + 1)) := Lib.hid (by
              rw [nmO_step, HGD.out]
              exact ⟨HNO.out, fun h => absurd h hg⟩)
            clear hg
            obtain ⟨t, f, g, ⟨oc, ok, oh, ov⟩, ⟨ae, ao, ak, av, an, ap⟩⟩ := m
            unfold clV at cr
            unfold clC at hbn
            dsimp only at c0 c1 c2 c3 c4 c5 c6 c7 c8 c9 c10 c11 c12 cr hbn
            have HBA := Lib.hid (pal (w := wr) (.cells #[.int .i64 t, .int .i64 f, .int .i64 g, .int .i64 oc, .int .i64 ok, .int .i64 oh, .int .i64 ov, .int .i64 ae, .bool ao, .int .i64 ak, .int .i64 av, .int .i64 an, .slice pa ap.length pc] 71))
            have HBQ2 := Lib.hid (HBQ.out.keep HBA.out)
            go_wp2_with (fail)
            have h13 := Bq.new wr #[.int .i64 t, .int .i64 f, .int .i64 g, .int .i64 oc, .int .i64 ok, .int .i64 oh, .int .i64 ov, .int .i64 ae, .bool ao, .int .i64 ak, .int .i64 av, .int .i64 an, .slice pa ap.length pc] 71
            have q0 := h13.at_ 0 _ rfl
            have q1 := h13.at_ 1 _ rfl
            have q2 := h13.at_ 2 _ rfl
            have q3 := h13.at_ 3 _ rfl
            have q4 := h13.at_ 4 _ rfl
            have q5 := h13.at_ 5 _ rfl
            have q6 := h13.at_ 6 _ rfl
            have q7 := h13.at_ 7 _ rfl
            have q8 := h13.at_ 8 _ rfl
            have q9 := h13.at_ 9 _ rfl
            have q10 := h13.at_ 10 _ rfl
            have q11 := h13.at_ 11 _ rfl
            have q12 := h13.at_ 12 _ rfl
            clear h13 c0 c1 c2 c3 c4 c5 c6 c7 c8 c9 c10 c11 c12
            refine wp_region_held_drew (S := fun W => W.cell? ⟨wr.heap.size, 0, none⟩ = some (.int .i64 t) ∧ W.cell? ⟨wr.heap.size, 1, none⟩ = some (.int .i64 f) ∧ W.cell? ⟨wr.heap.size, 2, none⟩ = some (.int .i64 g) ∧ W.cell? ⟨wr.heap.size, 3, none⟩ = some (.int .i64 oc) ∧ W.cell? ⟨wr.heap.size, 4, none⟩ = some (.int .i64 ok) ∧ W.cell? ⟨wr.heap.size, 5, none⟩ = some (.int .i64 oh) ∧ W.cell? ⟨wr.heap.size, 6, none⟩ = some (.int .i64 ov) ∧ W.cell? ⟨wr.heap.size, 7, none⟩ = some (.int .i64 ae) ∧ W.cell? ⟨wr.heap.size, 8, none⟩ = some (.bool ao) ∧ W.cell? ⟨wr.heap.size, 9, none⟩ = some (.int .i64 ak) ∧ W.cell? ⟨wr.heap.size, 10, none⟩ = some (.int .i64 av) ∧ W.cell? ⟨wr.heap.size, 11, none⟩ = some (.int .i64 an) ∧ W.cell? ⟨wr.heap.size, 12, none⟩ = some (.slice pa ap.length pc) ∧ W.cell? ⟨w.heap.size, n, none⟩ = some (.bool (nmB l n)) ∧ Below (wr.alloc (.cells #[.int .i64 t, .int .i64 f, .int .i64 g, .int .i64 oc, .int .i64 ok, .int .i64 oh, .int .i64 ov, .int .i64 ae, .bool ao, .int .i64 ak, .int .i64 av, .int .i64 an, .slice pa ap.length pc] 71)).heap.size (wr.alloc (.cells #[.int .i64 t, .int .i64 f, .int .i64 g, .int .i64 oc, .int .i64 ok, .int .i64 oh, .int .i64 ov, .int .i64 ae, .bool ao, .int .i64 ak, .int .i64 av, .int .i64 an, .slice pa ap.length pc] 71)) W) (by kernel_rfl) (by first | exact ⟨q0, q1, q2, q3, q4, q5, q6, q7, q8, q9, q10, q11, q12, hbn, Below.refl _ _⟩ | exact ⟨q0, q1, q2, q3, q4, q5, q6, q7, q8, q9, q10, q11, q12, hbn, (Below.refl _ _).drew⟩) (fun hHeld => ?_)
            refine tkO 0 ?_ rfl (by kernel_rfl) (fun _ _ _ h => h) ⟨by rfl, ?_⟩ hHeld ?_; rotate_left
            · intro wS hSw; (try dsimp only at hSw); (try go_split_ands); go_simp; try with_reducible rfl
            try simp only [List.getElem_toArray, List.getElem_cons_succ, List.getElem_cons_zero, Act.put, List.setIfInBounds_toArray, List.set_cons_zero, List.set_cons_succ]
            refine wpAnyH_ready (rs := [1]) (by kernel_rfl) (by simp) ?_
            refine AllReadyH.cons rfl (fun K hK => ?_) AllReadyH.nil
            go_simp
            (go_at_call 54; ((with_reducible refine (cr _).mono ?_); rintro e Y ⟨rfl, hbY⟩))
            refine hK.out _ _ ?_ (fun hNext => ?_)
            · exact ⟨pkc hbY hHeld.1, pkc hbY hHeld.2.1, pkc hbY hHeld.2.2.1, pkc hbY hHeld.2.2.2.1, pkc hbY hHeld.2.2.2.2.1, pkc hbY hHeld.2.2.2.2.2.1, pkc hbY hHeld.2.2.2.2.2.2.1, pkc hbY hHeld.2.2.2.2.2.2.2.1, pkc hbY hHeld.2.2.2.2.2.2.2.2.1, pkc hbY hHeld.2.2.2.2.2.2.2.2.2.1, pkc hbY hHeld.2.2.2.2.2.2.2.2.2.2.1, pkc hbY hHeld.2.2.2.2.2.2.2.2.2.2.2.1, pkc hbY hHeld.2.2.2.2.2.2.2.2.2.2.2.2.1, pkc hbY hHeld.2.2.2.2.2.2.2.2.2.2.2.2.2.1, pb2 hHeld.2.2.2.2.2.2.2.2.2.2.2.2.2.2 hbY⟩
            clear hbY
            clear hK K hHeld
            have hHeld := hNext
            clear hNext
            try simp only [List.getElem_toArray, List.getElem_cons_succ, List.getElem_cons_zero, Act.put, List.setIfInBounds_toArray, List.set_cons_zero, List.set_cons_succ]
            refine tkO 2 ?_ rfl (by kernel_rfl) (fun _ _ _ h => h) ⟨by rfl, ?_⟩ hHeld ?_; rotate_left
            · intro wS hSw; (try dsimp only at hSw); (try go_split_ands); go_simp; try with_reducible rfl
            try simp only [List.getElem_toArray, List.getElem_cons_succ, List.getElem_cons_zero, Act.put, List.setIfInBounds_toArray, List.set_cons_zero, List.set_cons_succ]
            refine tsO 3 rfl (by kernel_rfl) (fun _ _ _ h => h) ⟨by rfl, rfl⟩ hHeld ?_
            try simp only [List.getElem_toArray, List.getElem_cons_succ, List.getElem_cons_zero, Act.put, List.setIfInBounds_toArray, List.set_cons_zero, List.set_cons_succ]
            refine tsO 4 rfl (by kernel_rfl) (fun _ _ _ h => h) ⟨by rfl, rfl⟩ hHeld ?_
            try simp only [List.getElem_toArray, List.getElem_cons_succ, List.getElem_cons_zero, Act.put, List.setIfInBounds_toArray, List.set_cons_zero, List.set_cons_succ]
            refine tsO 5 rfl (by kernel_rfl) (fun _ _ _ h => h) ⟨by rfl, rfl⟩ hHeld ?_
            try simp only [List.getElem_toArray, List.getElem_cons_succ, List.getElem_cons_zero, Act.put, List.setIfInBounds_toArray, List.set_cons_zero, List.set_cons_succ]
            refine tsO 6 rfl (by kernel_rfl) (fun _ _ _ h => h) ⟨by rfl, rfl⟩ hHeld ?_
            try simp only [List.getElem_toArray, List.getElem_cons_succ, List.getElem_cons_zero, Act.put, List.setIfInBounds_toArray, List.set_cons_zero, List.set_cons_succ]
            refine tsO 7 rfl (by kernel_rfl) (fun _ _ _ h => h) ⟨by rfl, rfl⟩ hHeld ?_
            try simp only [List.getElem_toArray, List.getElem_cons_succ, List.getElem_cons_zero, Act.put, List.setIfInBounds_toArray, List.set_cons_zero, List.set_cons_succ]
            refine tsO 8 rfl (by kernel_rfl) (fun _ _ _ h => h) ⟨by rfl, rfl⟩ hHeld ?_
            try simp only [List.getElem_toArray, List.getElem_cons_succ, List.getElem_cons_zero, Act.put, List.setIfInBounds_toArray, List.set_cons_zero, List.set_cons_succ]
            refine tsO 9 rfl (by kernel_rfl) (fun _ _ _ h => h) ⟨by rfl, rfl⟩ hHeld ?_
            try simp only [List.getElem_toArray, List.getElem_cons_succ, List.getElem_cons_zero, Act.put, List.setIfInBounds_toArray, List.set_cons_zero, List.set_cons_succ]
            refine tkO 10 ?_ rfl (by kernel_rfl) (fun _ _ _ h => h) ⟨by rfl, ?_⟩ hHeld ?_; rotate_left
            · intro wS hSw; (try dsimp only at hSw); (try go_split_ands); go_simp; try with_reducible rfl
            try simp only [List.getElem_toArray, List.getElem_cons_succ, List.getElem_cons_zero, Act.put, List.setIfInBounds_toArray, List.set_cons_zero, List.set_cons_succ]
            refine wpAnyH_done (by kernel_rfl) ?_ _
            have HE := Lib.hid (pb2 (pb2 HBE.out HBA.out) hHeld.2.2.2.2.2.2.2.2.2.2.2.2.2.2)
            have HQE := Lib.hid (HBQ2.out.keep hHeld.2.2.2.2.2.2.2.2.2.2.2.2.2.2)
            clear hHeld q0 q1 q2 q3 q4 q5 q6 q7 q8 q9 q10 q11 q12 cr hbn
            go_wp2_with (fail)
            go_roundw
            case rel => exact ⟨n + 1, by omega, by go_num, HST.out, HQE.out, HE.out⟩
            case measure => simp [intOf]; omega
        · obtain rfl : n = L.length := by omega
          have hBt : Hid (B = true) := Lib.hid (HIFF.out.2 HNO.out)
          clear hno hbq hbe
          go_wp2_with (fail)
          go_ret
          exact ⟨by rw [hBt.out]; rfl, HBE.out⟩
end Go.Proofs.Ytadfnbmogobopaa
