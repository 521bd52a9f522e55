/- leaf.Same (slices.Equal), leaf.copied, slices.Grow of nothing, slices.Concat of some rows of pairs. No condition: lemmas. -/
import Derived.Test.YtlpjbgojijkdjaaLfA
namespace Go.Proofs.Ytlpjbgojijkdjaa
open Go.RowKit
set_option linter.all false

set_option maxRecDepth 100000 in
set_option maxHeartbeats 6400000 in
theorem slequal_any (a a2 : Option Addr) (cap cap2 : Nat) (l m : List Pr) (w : World) (h : Prs w a cap l) (h2 : Prs w a2 cap2 m) (B : Bool) (hB : decide (l = m) = B) :
    Calls Try.prog 59 #[.slice a l.length cap, .slice a2 m.length cap2] w fun e w' => e = .returned (.bool B) ∧ Below w.heap.size w w' := by
  by_cases hlen : l.length = m.length
  · have HB := Lib.hid hB
    have HH := Lib.hid h
    have HH2 := Lib.hid h2
    have hc1 := h.1
    have hc2 := h.2.1
    have hc3 := h2.1
    have hc4 := h2.2.1
    have HLEN := Lib.hid hlen
    have hlen' : ((l.length : Int) == (m.length : Int)) = true := by simp [hlen]
    rw [← hlen] at hc3
    rw [← hlen]
    clear h h2 hB hlen
    unfold maxLen at hc2 hc4
    go_enter Try.func59, Try.ntmps59
    go_wp2_with (fail)
    go_loopw [13] (fun i wr => ∃ n : Nat, n ≤ l.length ∧ i = .int .i64 n ∧ (∀ j, j < n → l[j]? = m[j]?) ∧ Below w.heap.size w wr) (fun i _ => l.length - (intOf i).toNat)
    case atStart => exact ⟨0, Nat.zero_le _, rfl, fun j hj => absurd hj (Nat.not_lt_zero j), Below.refl _ _⟩
    case round =>
      obtain ⟨n, hn, rfl, hall, hb⟩ := hrel
      have HALL := Lib.hid hall
      clear hall
      by_cases hlt : n < l.length
      · obtain ⟨q, hq⟩ : ∃ q, l[n]? = some q := ⟨_, List.getElem?_eq_getElem hlt⟩
        obtain ⟨q', hq'⟩ : ∃ q, m[n]? = some q := ⟨_, List.getElem?_eq_getElem (by have := HLEN.out; omega)⟩
        obtain ⟨b, o, rfl, c0, c1⟩ := (HH.out.below hb).2.2.1 n q hq
        obtain ⟨b', o', rfl, d0, d1⟩ := (HH2.out.below hb).2.2.1 n q' hq'
        have HQ := Lib.hid (And.intro hq hq')
        obtain ⟨x0, x1⟩ := q
        obtain ⟨y0, y1⟩ := q'
        dsimp only at c0 c1 d0 d1
        clear hq hq'
        have hn0 : (0 : Int) ≤ (n : Int) := by omega
        have hnl : (n : Int) < (l.length : Int) := by omega
        by_cases he0 : x0 = y0
        · by_cases he1 : x1 = y1
          · subst he0
            subst he1
            go_wp2_with (fail)
            go_quiet (fail)
            go_wp2_with (fail)
            go_roundw
            case rel => exact ⟨n + 1, by omega, by go_num, fun j hj => by
              rcases Nat.lt_succ_iff_lt_or_eq.1 hj with hj | rfl
              · exact HALL.out j hj
              · rw [HQ.out.1, HQ.out.2], below_drewN hb _⟩
            case measure => simp [intOf]; omega
          · subst he0
            have hne : B = false := by
              rw [← HB.out]
              refine decide_eq_false (fun e => he1 ?_)
              subst e
              have := HQ.out.1.symm.trans HQ.out.2
              simp at this
              exact this
            have he1' : (x1 == y1) = false := by simp [he1]
            go_wp2_with (fail)
            go_quiet (fail)
            go_wp2_with (fail)
            go_ret
            exact ⟨by rw [hne]; rfl, below_drewN hb _⟩
        · have hne : B = false := by
            rw [← HB.out]
            refine decide_eq_false (fun e => he0 ?_)
            subst e
            have := HQ.out.1.symm.trans HQ.out.2
            simp at this
            exact this.1
          have he0' : (x0 == y0) = false := by simp [he0]
          go_wp2_with (fail)
          go_quiet (fail)
          go_wp2_with (fail)
          go_ret
          exact ⟨by rw [hne]; rfl, below_drewN hb _⟩
      · obtain rfl : n = l.length := by omega
        have heq : l = m := by
          apply List.ext_getElem?
          intro j
          by_cases hj : j < l.length
          · exact HALL.out j hj
          · rw [List.getElem?_eq_none (by omega), List.getElem?_eq_none (by have := HLEN.out; omega)]
        have hB : B = true := by rw [← HB.out]; exact decide_eq_true heq
        clear heq
        go_wp2_with (fail)
        go_ret
        exact ⟨by rw [hB]; rfl, hb⟩
  · have hne : B = false := by
      rw [← hB]
      exact decide_eq_false (fun e => hlen (by rw [e]))
    have hlen' : ((l.length : Int) == (m.length : Int)) = false := by simp; omega
    subst hne
    have hc2 := h.2.1
    have hc4 := h2.2.1
    clear h h2 hB hlen
    go_enter Try.func59, Try.ntmps59
    go_wp2_with (fail)
    go_ret
    exact ⟨rfl, Below.refl _ _⟩

/-- leaf.Same. -/
theorem lsame_any (a a2 : Option Addr) (cap cap2 : Nat) (l m : List Pr) (w : World) (h : Prs w a cap l) (h2 : Prs w a2 cap2 m) (B : Bool) (hB : decide (l = m) = B) :
    Calls Try.prog 53 #[.slice a l.length cap, .slice a2 m.length cap2] w fun e w' => e = .returned (.bool B) ∧ Below w.heap.size w w' := by
  have c := slequal_any a a2 cap cap2 l m w h h2 B hB
  clear h h2 hB
  go_enter Try.func53, Try.ntmps53
  go_wp2_with (go_at_call 59; ((with_reducible refine c.mono ?_); clear c; rintro e w2 ⟨rfl, hb2⟩))
  go_ret
  exact ⟨rfl, hb2⟩

/-- Any slice of pairs is what an append takes. -/
theorem src_any {w : World} {a : Option Addr} {cap : Nat} {l : List Pr} (h : Prs w a cap l) : Source w (.slice a l.length cap) l.length (cellsP l) := by
  cases a with
  | none =>
    have h0 := h.2.2.2 rfl
    have h1 := h.1
    subst h0
    obtain rfl : l = [] := List.length_eq_zero_iff.1 (by omega)
    exact .inl ⟨rfl, rfl, rfl⟩
  | some ad =>
    cases l with
    | nil => exact .inr ⟨ad, cap, rfl, fun j u hj => by simp [cellsP] at hj⟩
    | cons q l =>
      obtain ⟨b, o, e, _⟩ := h.2.2.1 0 q rfl
      cases e
      exact src_prs h rfl

/-- What tells a row of pairs of its own. -/
def RowIs (w : World) (L : List Pr) (e : Ending) (w' : World) : Prop :=
  ∃ ao cp, e = .returned (.slice ao L.length cp) ∧ PRow w' (fun j => j < w.heap.size) (.slice ao L.length cp) L ∧ Below w.heap.size w w'

/-- Some slices of pairs, written out as a row. -/
structure SlD where
  a : Option Addr
  cap : Nat
  l : List Pr
def PRs (w : World) (g : Nat) (rs : List SlD) : Prop := ∀ (j : Nat) (r : SlD), rs[j]? = some r → w.cell? ⟨g, j, none⟩ = some (.slice r.a r.l.length r.cap) ∧ Prs w r.a r.cap r.l
theorem PRs.below {w w' : World} {g : Nat} {rs : List SlD} (h : PRs w g rs) (hb : Below w.heap.size w w') : PRs w' g rs := fun j r hr => by
  obtain ⟨h1, h2⟩ := h j r hr
  exact ⟨(hb.cell (World.block_lt_of_cell? w _ h1)).trans h1, h2.below hb⟩
def sumL (rs : List SlD) : Nat := (rs.map (fun r => r.l.length)).sum
def catL (rs : List SlD) : List Pr := (rs.map (fun r => r.l)).flatten
theorem sumL_take {rs : List SlD} {n : Nat} {r : SlD} (h : rs[n]? = some r) : sumL (rs.take (n + 1)) = sumL (rs.take n) + r.l.length := by
  have e : rs.take (n + 1) = rs.take n ++ [r] := by rw [List.take_succ, h]; rfl
  rw [e]; unfold sumL; simp
theorem catL_take {rs : List SlD} {n : Nat} {r : SlD} (h : rs[n]? = some r) : catL (rs.take (n + 1)) = catL (rs.take n) ++ r.l := by
  have e : rs.take (n + 1) = rs.take n ++ [r] := by rw [List.take_succ, h]; rfl
  rw [e]; unfold catL; simp
theorem catL_len (rs : List SlD) : (catL rs).length = sumL rs := by unfold catL sumL; rw [List.length_flatten, List.map_map]; rfl
theorem sumL_le (rs : List SlD) (n : Nat) : sumL (rs.take n) ≤ sumL rs := by
  conv => rhs; rw [← List.take_append_drop n rs]
  unfold sumL
  rw [List.map_append, List.sum_append]
  omega
theorem row_prs {w : World} {L : List Pr} {ao : Option Addr} {n cp : Nat} {S : Nat → Prop} (h : PRow w S (.slice ao n cp) L) (hn : n = L.length) : Prs w ao cp L := h.prs hn

end Go.Proofs.Ytlpjbgojijkdjaa
