/- leaf.Same (slices.Equal), leaf.copied, slices.Grow of nothing, slices.Concat of some rows of pairs. No condition: lemmas. -/
import Derived.Test.YtadfnbmogobopaaLfA
namespace Go.Proofs.Ytadfnbmogobopaa
open Go.RowKit
set_option linter.all false

set_option maxRecDepth 100000 in
set_option maxHeartbeats 6400000 in
theorem slequal_any (a a2 : Option Addr) (cap cap2 : Nat) (l m : List Pr) (w : World) (h : Prs w a cap l) (h2 : Prs w a2 cap2 m) (B : Bool) (hB : decide (l = m) = B) :
    Calls Try.prog 65 #[.slice a l.length cap, .slice a2 m.length cap2] w fun e w' => e = .returned (.bool B) ∧ Below w.heap.size w w' := by
  by_cases hlen : l.length = m.length
  · have HB := Lib.hid hB
    have HH := Lib.hid h
    have HH2 := Lib.hid h2
    have hc1 := h.1
    have hc2 := h.2.1
    have hc3 := h2.1
    have hc4 := h2.2.1
    have HLEN := Lib.hid hlen
    have hlen' : ((l.length : Int) == (m.length : Int)) = true := by simp [hlen]
    rw [← hlen] at hc3
    rw [← hlen]
    clear h h2 hB hlen
    unfold maxLen at hc2 hc4
    go_enter Try.func65, Try.ntmps65
    go_wp2_with (fail)
    go_loopw [13] (fun i wr => ∃ n : Nat, n ≤ l.length ∧ i = .int .i64 n ∧ (∀ j, j < n → l[j]? = m[j]?) ∧ Below w.heap.size w wr) (fun i _ => l.length - (intOf i).toNat)
    case atStart => exact ⟨0, Nat.zero_le _, rfl, fun j hj => absurd hj (Nat.not_lt_zero j), Below.refl _ _⟩
    case round =>
      obtain ⟨n, hn, rfl, hall, hb⟩ := hrel
      have HALL := Lib.hid hall
      clear hall
      by_cases hlt : n < l.length
      · obtain ⟨q, hq⟩ : ∃ q, l[n]? = some q := ⟨_, List.getElem?_eq_getElem hlt⟩
        obtain ⟨q', hq'⟩ : ∃ q, m[n]? = some q := ⟨_, List.getElem?_eq_getElem (by have := HLEN.out; omega)⟩
        obtain ⟨b, o, rfl, c0, c1⟩ := (HH.out.below hb).2.2.1 n q hq
        obtain ⟨b', o', rfl, d0, d1⟩ := (HH2.out.below hb).2.2.1 n q' hq'
        have HQ := Lib.hid (And.intro hq hq')
        obtain ⟨x0, x1⟩ := q
        obtain ⟨y0, y1⟩ := q'
        dsimp only at c0 c1 d0 d1
        clear hq hq'
        have hn0 : (0 : Int) ≤ (n : Int) := by omega
        have hnl : (n : Int) < (l.length : Int) := by omega
        by_cases he0 : x0 = y0
        · by_cases he1 : x1 = y1
          · subst he0
            subst he1
            go_wp2_with (fail)
            go_quiet (fail)
            go_wp2_with (fail)
            go_roundw
            case rel => exact ⟨n + 1, by omega, by go_num, fun j hj => by
              rcases Nat.lt_succ_iff_lt_or_eq.1 hj with hj | rfl
              · exact HALL.out j hj
              · rw [HQ.out.1, HQ.out.2], below_drewN hb _⟩
            case measure => simp [intOf]; omega
          · subst he0
            have hne : B = false := by
              rw [← HB.out]
              refine decide_eq_false (fun e => he1 ?_)
              subst e
              have := HQ.out.1.symm.trans HQ.out.2
              simp at this
              exact this
            have he1' : (x1 == y1) = false := by simp [he1]
            go_wp2_with (fail)
            go_quiet (fail)
            go_wp2_with (fail)
            go_ret
            exact ⟨by rw [hne]; rfl, below_drewN hb _⟩
        · have hne : B = false := by
            rw [← HB.out]
            refine decide_eq_false (fun e => he0 ?_)
            subst e
            have := HQ.out.1.symm.trans HQ.out.2
            simp at this
            exact this.1
          have he0' : (x0 == y0) = false := by simp [he0]
          go_wp2_with (fail)
          go_quiet (fail)
          go_wp2_with (fail)
          go_ret
          exact ⟨by rw [hne]; rfl, below_drewN hb _⟩
      · obtain rfl : n = l.length := by omega
        have heq : l = m := by
          apply List.ext_getElem?
          intro j
          by_cases hj : j < l.length
          · exact HALL.out j hj
          · rw [List.getElem?_eq_none (by omega), List.getElem?_eq_none (by have := HLEN.out; omega)]
        have hB : B = true := by rw [← HB.out]; exact decide_eq_true heq
        clear heq
        go_wp2_with (fail)
        go_ret
        exact ⟨by rw [hB]; rfl, hb⟩
  · have hne : B = false := by
      rw [← hB]
      exact decide_eq_false (fun e => hlen (by rw [e]))
    have hlen' : ((l.length : Int) == (m.length : Int)) = false := by simp; omega
    subst hne
    have hc2 := h.2.1
    have hc4 := h2.2.1
    clear h h2 hB hlen
    go_enter Try.func65, Try.ntmps65
    go_wp2_with (fail)
    go_ret
    exact ⟨rfl, Below.refl _ _⟩

/-- leaf.Same. -/
theorem lsame_any (a a2 : Option Addr) (cap cap2 : Nat) (l m : List Pr) (w : World) (h : Prs w a cap l) (h2 : Prs w a2 cap2 m) (B : Bool) (hB : decide (l = m) = B) :
    Calls Try.prog 51 #[.slice a l.length cap, .slice a2 m.length cap2] w fun e w' => e = .returned (.bool B) ∧ Below w.heap.size w w' := by
  have c := slequal_any a a2 cap cap2 l m w h h2 B hB
  clear h h2 hB
  go_enter Try.func51, Try.ntmps51
  go_wp2_with (go_at_call 65; ((with_reducible refine c.mono ?_); clear c; rintro e w2 ⟨rfl, hb2⟩))
  go_ret
  exact ⟨rfl, hb2⟩

/-- Any slice of pairs is what an append takes. -/
theorem src_any {w : World} {a : Option Addr} {cap : Nat} {l : List Pr} (h : Prs w a cap l) : Source w (.slice a l.length cap) l.length (cellsP l) := by
  cases a with
  | none =>
    have h0 := h.2.2.2 rfl
    have h1 := h.1
    subst h0
    obtain rfl : l = [] := List.length_eq_zero_iff.1 (by omega)
    exact .inl ⟨rfl, rfl, rfl⟩
  | some ad =>
    cases l with
    | nil => exact .inr ⟨ad, cap, rfl, fun j u hj => by simp [cellsP] at hj⟩
    | cons q l =>
      obtain ⟨b, o, e, _⟩ := h.2.2.1 0 q rfl
      cases e
      exact src_prs h rfl

/-- What tells a row of pairs of its own. -/
def RowIs (w : World) (L : List Pr) (e : Ending) (w' : World) : Prop :=
  ∃ ao cp, e = .returned (.slice ao L.length cp) ∧ PRow w' (fun j => j < w.heap.size) (.slice ao L.length cp) L ∧ Below w.heap.size w w'

set_option maxHeartbeats 1600000 in
theorem copied_any (a : Option Addr) (cap : Nat) (l : List Pr) (w : World) (h : Prs w a cap l) (hl : l.length ≤ 3000000) :
    Calls Try.prog 60 #[.slice a l.length cap] w (RowIs w l) := by
  have HH := Lib.hid h
  have hc1 := h.1
  have hc2 := h.2.1
  clear h
  unfold maxLen at hc2
  go_enter Try.func60, Try.ntmps60
  go_wp2_with (at_builtin; refine wpList_app rfl (.const (.slice none 0 0)) (.tmp 3) rfl (fun j => j < w.heap.size) _ [] l rfl (PRow.nil _ _) (fun k hk => hk) _ rfl (src_any HH.out) (by simp; omega) l.length (by simp) l rfl ?_; intro ao cp w1 hm1 hc3 hR hO; have HF := Lib.hid (And.intro hR hO); clear hR hO; unfold maxLen at hm1)
  go_ret
  exact ⟨_, _, rfl, HF.out.1, only_lt (Below.refl _ _) HF.out.2⟩

/-- slices.Grow of nothing. -/
theorem grow_zero (w : World) : Calls Try.prog 74 #[.slice none 0 0, .int .i64 0] w (fun e w' => e = .returned (.slice none 0 0) ∧ w' = w) := by
  go_enter Try.func74, Try.ntmps74
  go_wp2_with (fail)
  go_ret
  exact ⟨rfl, rfl⟩

set_option maxHeartbeats 1600000 in
theorem grow_some (n : Nat) (h0 : 0 < n) (hn : n ≤ 100000000000) (w : World) : Calls Try.prog 74 #[.slice none 0 0, .int .i64 n] w (RowIs w []) := by
  obtain ⟨G, C, hrun, hG1, hG2, hC⟩ : ∃ (G : Nat) (C : Array Value), (∀ ty, (Builtin.append_ #[22, 3] ty #[.slice none 0 0, .int .i64 (n : Int)]).run Try.prog w = .ok (.slice (some ⟨w.heap.size, 0, none⟩) n G) (w.drew.alloc (.cells C 32))) ∧ n ≤ G ∧ G ≤ maxLen ∧ C.size = G * 2 := by
    obtain ⟨i, hi, hz, hs1, hs2⟩ := info_parts infoPair
    have h1 := grownCap_ge w n 0 32
    refine ⟨_, _, fun ty => Lib.run_append_nil_zeros w 22 3 ty 32 i _ .i64 .i64 Try.underlying22 Try.underlying3 hi hz n h0 (by omega) (by omega) (by rw [hs2]; omega), h1, grownCap_le_maxLen w n 0 32 (by unfold maxLen; omega), ?_⟩
    unfold Builtin.zeroCells
    simp only [Array.size_append, Array.size_map, Array.size_range]
    have : (Value.agg #[.int .i64 0, .int .i64 0]).cells.size = 2 := rfl
    rw [this]
    omega
  have HX : Hid (PRow (w.drew.alloc (.cells C 32)) (fun j => j < w.heap.size) (.slice (some ⟨w.heap.size, 0, none⟩) 0 G) []) := Lib.hid ⟨⟨rfl, .inr ⟨w.heap.size, G, C, rfl, Nat.zero_le _, heap_alloc_new w.drew _, Nat.zero_le _, hG2, hC, by simp [cellsP]⟩⟩, fun k hk hs => by simp [Value.ownBlock] at hk; omega⟩
  have HB : Hid (Below w.heap.size w (w.drew.alloc (.cells C 32))) := Lib.hid (((Below.refl _ w).drew).alloc (Nat.le_refl _) _)
  have h1 : ¬ ((n : Int) < 0) := by omega
  have h4 : (n : Int) > 0 := by omega
  unfold maxLen at hG2
  clear hC
  go_enter Try.func74, Try.ntmps74
  go_wp2_with (at_builtin; refine Lib.wpList_append_run _ rfl _ _ _ _ rfl _ _ rfl rfl _ _ (hrun _) ?_)
  all_goals (go_ret; exact ⟨_, _, rfl, HX.out, HB.out⟩)

/-- Some slices of pairs, written out as a row. -/
structure SlD where
  a : Option Addr
  cap : Nat
  l : List Pr
def PRs (w : World) (g : Nat) (rs : List SlD) : Prop := ∀ (j : Nat) (r : SlD), rs[j]? = some r → w.cell? ⟨g, j, none⟩ = some (.slice r.a r.l.length r.cap) ∧ Prs w r.a r.cap r.l
theorem PRs.below {w w' : World} {g : Nat} {rs : List SlD} (h : PRs w g rs) (hb : Below w.heap.size w w') : PRs w' g rs := fun j r hr => by
  obtain ⟨h1, h2⟩ := h j r hr
  exact ⟨(hb.cell (World.block_lt_of_cell? w _ h1)).trans h1, h2.below hb⟩
def sumL (rs : List SlD) : Nat := (rs.map (fun r => r.l.length)).sum
def catL (rs : List SlD) : List Pr := (rs.map (fun r => r.l)).flatten
theorem sumL_take {rs : List SlD} {n : Nat} {r : SlD} (h : rs[n]? = some r) : sumL (rs.take (n + 1)) = sumL (rs.take n) + r.l.length := by
  have e : rs.take (n + 1) = rs.take n ++ [r] := by rw [List.take_succ, h]; rfl
  rw [e]; unfold sumL; simp
theorem catL_take {rs : List SlD} {n : Nat} {r : SlD} (h : rs[n]? = some r) : catL (rs.take (n + 1)) = catL (rs.take n) ++ r.l := by
  have e : rs.take (n + 1) = rs.take n ++ [r] := by rw [List.take_succ, h]; rfl
  rw [e]; unfold catL; simp
theorem catL_len (rs : List SlD) : (catL rs).length = sumL rs := by unfold catL sumL; rw [List.length_flatten, List.map_map]; rfl
theorem sumL_le (rs : List SlD) (n : Nat) : sumL (rs.take n) ≤ sumL rs := by
  conv => rhs; rw [← List.take_append_drop n rs]
  unfold sumL
  rw [List.map_append, List.sum_append]
  omega
theorem row_prs {w : World} {L : List Pr} {ao : Option Addr} {n cp : Nat} {S : Nat → Prop} (h : PRow w S (.slice ao n cp) L) (hn : n = L.length) : Prs w ao cp L := h.prs hn

set_option maxRecDepth 100000 in
set_option maxHeartbeats 6400000 in
/-- slices.Concat. -/
theorem concat_any (g : Nat) (rs : List SlD) (w : World) (h : PRs w g rs) (hs : sumL rs ≤ 3000000) (hr : rs.length ≤ 1000) (cp : Nat) (hcp : rs.length ≤ cp) (hcm : cp ≤ 1000) :
    Calls Try.prog 69 #[.slice (some ⟨g, 0, none⟩) rs.length cp] w (RowIs w (catL rs)) := by
  have HH := Lib.hid h
  clear h
  go_enter Try.func69, Try.ntmps69
  go_wp2_with (fail)
  go_loopw [3, 11] (fun s i wr => ∃ (n m : Nat), n ≤ rs.length ∧ i = .int .i64 n ∧ s = .int .i64 m ∧ m = sumL (rs.take n) ∧ w = wr) (fun _ i _ => rs.length - (intOf i).toNat)
  case atStart => exact ⟨0, 0, Nat.zero_le _, rfl, rfl, rfl, rfl⟩
  case round =>
    obtain ⟨n, m, hn, rfl, rfl, hm, rfl⟩ := hrel
    have hmle := sumL_le rs n
    rw [← hm] at hmle
    by_cases hlt : n < rs.length
    · obtain ⟨r, hq⟩ : ∃ r, rs[n]? = some r := ⟨_, List.getElem?_eq_getElem hlt⟩
      obtain ⟨c0, c1⟩ := HH.out n r hq
      have hst := sumL_take hq
      have hle2 := sumL_le rs (n + 1)
      rw [hst, ← hm] at hle2
      have HM := Lib.hid (hst.trans (by rw [← hm]))
      clear hq hm c1 hst
      have hneg : ¬ ((m : Int) + (r.l.length : Int) < 0) := by omega
      go_wp2_with (fail)
      go_roundw
      case rel => exact ⟨n + 1, m + r.l.length, by omega, by go_num, by go_num, HM.out.symm, trivial⟩
      case measure => simp [intOf]; omega
    · obtain rfl : n = rs.length := by omega
      rw [List.take_of_length_le (Nat.le_refl _)] at hm
      have HM := Lib.hid hm
      clear hm
      obtain ⟨c, hc⟩ : ∃ P : Prop, P := ⟨True, trivial⟩
      have cg : Calls Try.prog 74 #[.slice none 0 0, .int .i64 (m : Int)] w (RowIs w []) := by
        rcases Nat.eq_zero_or_pos m with e | e
        · subst e
          exact (grow_zero w).mono (fun e w' hh => ⟨none, 0, hh.1, by rw [hh.2]; exact PRow.nil _ _, by rw [hh.2]; exact Below.refl _ _⟩)
        · exact grow_some m e (by omega) w
      clear hc
      go_wp2_with (go_at_call 74; ((with_reducible refine cg.mono ?_); clear cg; rintro e w2 ⟨ao, cp2, rfl, hR, hb⟩))
      go_loopw [6, 27] (fun s i wr => ∃ (n : Nat) (ao : Option Addr) (cp k : Nat), n ≤ rs.length ∧ i = .int .i64 n ∧ s = .slice ao k cp ∧ k = (catL (rs.take n)).length ∧ PRow wr (fun j => j < w.heap.size) (.slice ao k cp) (catL (rs.take n)) ∧ Below w.heap.size w wr) (fun _ i _ => rs.length - (intOf i).toNat)
      case atStart => exact ⟨0, ao, cp2, 0, Nat.zero_le _, rfl, rfl, rfl, hR, hb⟩
      case round =>
        obtain ⟨n, ao3, cp3, k, hn, rfl, rfl, hk, hR3, hb3⟩ := hrel
        have hkl : k ≤ 3000000 := by rw [hk, catL_len]; have := sumL_le rs n; omega
        by_cases hlt : n < rs.length
        · obtain ⟨r, hq⟩ : ∃ r, rs[n]? = some r := ⟨_, List.getElem?_eq_getElem hlt⟩
          obtain ⟨c0, c1⟩ := (HH.out.below hb3) n r hq
          have HC := Lib.hid (catL_take hq)
          have hlr : (catL (rs.take n)).length + r.l.length ≤ 100000000000 := by
            have h1 := catL_len (rs.take (n + 1))
            rw [HC.out, List.length_append] at h1
            have := sumL_le rs (n + 1)
            omega
          have HL := Lib.hid hlr
          have HS := Lib.hid (src_any c1)
          have HR := Lib.hid (show PRow _ (fun j => j < w.heap.size) (.slice ao3 k cp3) (catL (rs.take n)) from hR3)
          have HB := Lib.hid hb3
          have HK := Lib.hid hk
          clear hq c1 hlr hR3 hb3 hk hR hb
          go_wp2_with (at_builtin; refine wpList_app rfl (.tmp 31) (.tmp 32) rfl (fun j => j < w.heap.size) _ (catL (rs.take n)) r.l rfl HR.out (fun k hk => Nat.lt_of_lt_of_le hk HB.out.size) _ rfl HS.out HL.out _ rfl _ rfl ?_; intro ao4 cp4 w4 hm4 hc4 hR4 hO4; have HF := Lib.hid (And.intro hR4 (only_lt HB.out hO4)); clear hR4 hO4; unfold maxLen at hm4)
          go_roundw
          case rel => exact ⟨n + 1, ao4, cp4, _, by omega, by go_num, rfl, by rw [HC.out, List.length_append], by rw [HC.out]; exact HF.out.1, HF.out.2⟩
          case measure => simp [intOf]; omega
        · obtain rfl : n = rs.length := by omega
          rw [List.take_of_length_le (Nat.le_refl _)] at hk hR3
          have HX := Lib.hid (And.intro hR3 hb3)
          subst hk
          clear hR3 hb3 hR hb
          go_wp2_with (fail)
          go_ret
          exact ⟨_, _, rfl, HX.out.1, HX.out.2⟩
end Go.Proofs.Ytadfnbmogobopaa
