/- slices.CompactFunc on a row of pairs of one's own: the first pair of each key is kept. No condition: lemmas. -/
import Derived.Test.YtadfnbmogobopaaMdG
namespace Go.Proofs.Ytadfnbmogobopaa
open Go.RowKit Go.Sort
set_option linter.all false
set_option maxRecDepth 20000

/-- What the inner loop keeps: j pairs from k0 on are seen, m are kept. -/
structure Cpt (l cur : List Pr) (k0 j m : Nat) : Prop where
  len : cur.length = l.length
  hm : m = (ded l (k0 + j)).length
  pre : cur.take m = ded l (k0 + j)
  suf : ∀ i, k0 + j ≤ i + 1 → cur[i]? = l[i]?
  mb : m + 1 ≤ k0 + j
theorem Cpt.start {l : List Pr} {k0 : Nat} {x y : Pr} (h0 : ¬ k0 = 0) (hk : k0 < l.length) (h : ded l k0 = l.take k0) (hx : l[k0]? = some x) (hy : l[k0 - 1]? = some y) (e : x.1 = y.1) : Cpt l l k0 1 k0 := by
  have hd : ded l (k0 + 1) = l.take k0 := (ded_same h0 hx hy e).trans h
  exact ⟨rfl, by rw [hd, List.length_take]; omega, hd.symm, fun i _ => rfl, Nat.le_refl _⟩
theorem Cpt.same {l cur : List Pr} {k0 j m : Nat} {x y : Pr} (h : Cpt l cur k0 j m) (h0 : ¬ k0 = 0) (hx : l[k0 + j]? = some x) (hy : l[k0 + j - 1]? = some y) (e : x.1 = y.1) : Cpt l cur k0 (j + 1) m := by
  have hd : ded l (k0 + (j + 1)) = ded l (k0 + j) := ded_same (n := k0 + j) (by omega) hx hy e
  exact ⟨h.len, by rw [hd]; exact h.hm, by rw [hd]; exact h.pre, fun i hi => h.suf i (by omega), by have := h.mb; omega⟩
theorem Cpt.other {l cur : List Pr} {k0 j m : Nat} {x y : Pr} (h : Cpt l cur k0 j m) (h0 : ¬ k0 = 0) (hj : k0 + j < l.length) (hx : l[k0 + j]? = some x) (hy : l[k0 + j - 1]? = some y) (e : ¬ x.1 = y.1) : Cpt l (cur.set m x) k0 (j + 1) (m + 1) := by
  have hd : ded l (k0 + (j + 1)) = ded l (k0 + j) ++ [x] := ded_other (n := k0 + j) (by omega) hx hy e
  have hmb := h.mb
  refine ⟨by rw [List.length_set]; exact h.len, by rw [hd, List.length_append, ← h.hm]; rfl, ?_, fun i hi => by rw [List.getElem?_set_ne (by omega)]; exact h.suf i (by omega), by omega⟩
  rw [hd, List.take_succ, List.getElem?_set_self (by rw [h.len]; omega), List.take_set_of_le (Nat.le_refl _), h.pre]
  rfl
theorem Wk2.put {w0 w : World} {S : Nat → Prop} {g n cap : Nat} {l : List Pr} (h : Wk2 w0 S g n cap w l) (i : Nat) (q : Pr) :
    Wk2 w0 S g n cap ((w.setCell ⟨g, i * 2, none⟩ (.int .i64 q.1)).setCell ⟨g, i * 2 + 1, none⟩ (.int .i64 q.2)) (l.set i q) :=
  ⟨h.row.set h.len.symm i q, by rw [List.length_set]; exact h.len, h.o.trans (only_set _ _ _ _) (fun k hk _ => hk)⟩

/-- What slices.CompactFunc tells. -/
def CmpIs (w : World) (S : Nat → Prop) (g cap : Nat) (R : List Pr) (e : Ending) (w' : World) : Prop :=
  e = .returned (.slice (some ⟨g, 0, none⟩) R.length cap) ∧ PRow w' S (.slice (some ⟨g, 0, none⟩) R.length cap) R ∧ Only (fun k => k = g) w w'

set_option maxRecDepth 100000 in
set_option maxHeartbeats 6400000 in
theorem compact_two (g cap n : Nat) (l : List Pr) (S : Nat → Prop) (w : World) (h : PRow w S (.slice (some ⟨g, 0, none⟩) n cap) l) (hn : l.length = n) (hl : n ≤ 10000000) (h2 : 2 ≤ n) :
    Calls Try.prog 41 #[.slice (some ⟨g, 0, none⟩) n cap, .func (.func 42) #[] #[]] w (CmpIs w S g cap (ded l n)) := by
  have HS := Lib.hid (Wk2.start h hn)
  have hcap := (h.prs hn.symm).1
  have hcap2 := (h.prs hn.symm).2.1
  rw [hn] at hcap
  unfold maxLen at hcap2
  have HN := Lib.hid hn
  have hd2 : decide ((n : Int) < 2) = false := decide_eq_false (by omega)
  have hd2' : ¬ (n : Int) < 2 := by omega
  have mixed : Try.prog.follows .mixedOrders = true := by kernel_rfl
  have HD : Hid (ded l 1 = l.take 1) := Lib.hid (ded_all 1 (by omega) (fun i x y h1 h2 => by omega))
  clear h hn
  go_enter Try.func41, Try.ntmps41
  go_wp2_with (fail)
  go_loopw [5] (fun x wr => ∃ k : Nat, x = .int .i64 k ∧ 1 ≤ k ∧ k ≤ n ∧ ded l k = l.take k ∧ Wk2 w S g n cap wr l) (fun x _ => n - (intOf x).toNat)
  case atStart => exact ⟨1, rfl, Nat.le_refl _, by omega, HD.out, HS.out⟩
  case round =>
    clear HS HD
    obtain ⟨k, rfl, hk1, hkn, hd, hW⟩ := hrel
    have HD := Lib.hid hd
    have HW := Lib.hid hW
    clear hd hW
    by_cases hlt : k < n
    · have hltI : (k : Int) < (n : Int) := by omega
      have hk0 : (0 : Int) ≤ (k : Int) := by omega
      obtain ⟨y, hy⟩ : ∃ y : Nat, k - 1 = y := ⟨_, rfl⟩
      have hyI : (k : Int) - 1 = (y : Int) := by omega
      have ry : IntKind.i64.wrap ((k : Int) - 1) = (y : Int) := by rw [IntKind.wrap_i64]; omega
      have ry2 : IntKind.i64.wrap (y : Int) = (y : Int) := by rw [IntKind.wrap_i64]; omega
      have hyl : (y : Int) < (n : Int) := by omega
      have hy0 : (0 : Int) ≤ (y : Int) := by omega
      obtain ⟨p, hp⟩ : ∃ p, l[k]? = some p := ⟨_, List.getElem?_eq_getElem (by rw [HN.out]; omega)⟩
      obtain ⟨q, hq⟩ : ∃ q, l[y]? = some q := ⟨_, List.getElem?_eq_getElem (by rw [HN.out]; omega)⟩
      obtain ⟨g0, g1⟩ := HW.out.cellG k p hp
      obtain ⟨g2, g3⟩ := HW.out.cellG y q hq
      rw [← hy] at hq
      obtain ⟨pk, pv⟩ := p
      obtain ⟨qk, qv⟩ := q
      dsimp only at g0 g1 g2 g3
      by_cases hpq : pk = qk
      · subst hpq
        have c := fun W => new2_yes pk pv qv W
        have HC := Lib.hid (Cpt.start (by omega) (by rw [HN.out]; omega) HD.out hp hq rfl)
        have hcapk : (k : Int) ≤ (cap : Int) := by omega
        have hkk : (k : Int) ≤ (n : Int) := by omega
        have hck : ¬ cap = k := by omega
        clear hp hq hy
        go_wp2_with (fail)
        go_quiet_grown (first | (go_at_call 42; exact Calls.grown_of (c _)))
        have HW2 := Lib.hid (HW.out.grown nq osq)
        clear g0 g1 g2 g3 HW
        generalize grow (wr.drewN nq) osq = w2 at HW2 ⊢
        clear nq osq
        go_wp2_with (fail)
        go_loopw [5, 7] (fun x z wr2 => ∃ (m j : Nat) (cur : List Pr), x = .int .i64 m ∧ z = .int .i64 j ∧ 1 ≤ j ∧ k + j ≤ n ∧ Cpt l cur k j m ∧ Wk2 w S g n cap wr2 cur) (fun _ z _ => n - (intOf z).toNat)
        case atStart => exact ⟨k, 1, l, rfl, rfl, Nat.le_refl _, by omega, HC.out, HW2.out⟩
        case round =>
          clear HC HW2
          obtain ⟨m, j, cur, rfl, rfl, hj1, hkj, hC, hW⟩ := hrel
          have HC := Lib.hid hC
          have HW := Lib.hid hW
          have hmb := hC.mb
          clear hC hW
          by_cases hjlt : k + j < n
          · obtain ⟨t, ht⟩ : ∃ t : Nat, j - 1 = t := ⟨_, rfl⟩
            have htI : (j : Int) - 1 = (t : Int) := by omega
            have rt : IntKind.i64.wrap ((j : Int) - 1) = (t : Int) := by rw [IntKind.wrap_i64]; omega
            have rt2 : IntKind.i64.wrap (t : Int) = (t : Int) := by rw [IntKind.wrap_i64]; omega
            have hj0 : (0 : Int) ≤ (j : Int) := by omega
            have ht0 : (0 : Int) ≤ (t : Int) := by omega
            have hjn : (j : Int) < (n : Int) - (k : Int) := by omega
            have htn : (t : Int) < (n : Int) - (k : Int) := by omega
            have hjn2 : (j : Int) < ((n - k : Nat) : Int) := by omega
            have htn2 : (t : Int) < ((n - k : Nat) : Int) := by omega
            obtain ⟨p, hp⟩ : ∃ p, l[k + j]? = some p := ⟨_, List.getElem?_eq_getElem (by rw [HN.out]; omega)⟩
            obtain ⟨q, hq⟩ : ∃ q, l[k + j - 1]? = some q := ⟨_, List.getElem?_eq_getElem (by rw [HN.out]; omega)⟩
            obtain ⟨g0, g1⟩ := HW.out.cellG (k + j) p ((HC.out.suf _ (by omega)).trans hp)
            obtain ⟨g2, g3⟩ := HW.out.cellG (k + t) q (by rw [HC.out.suf _ (by omega), ← hq]; congr 1; omega)
            rw [show (k + j) * 2 = k * 2 + j * 2 by omega] at g0 g1
            rw [show (k + t) * 2 = k * 2 + t * 2 by omega] at g2 g3
            obtain ⟨pk, pv⟩ := p
            obtain ⟨qk, qv⟩ := q
            dsimp only at g0 g1 g2 g3
            by_cases hpq : pk = qk
            · subst hpq
              have c := fun W => new2_yes pk pv qv W
              have HC2 := Lib.hid (HC.out.same (by omega) hp hq rfl)
              clear hp hq ht HC
              go_wp2_with (fail)
              go_quiet_grown (first | (go_at_call 42; exact Calls.grown_of (c _)))
              have HW2 := Lib.hid (HW.out.grown nq osq)
              clear g0 g1 g2 g3 HW
              generalize grow (wr.drewN nq) osq = w3 at HW2 ⊢
              clear nq osq
              go_wp2_with (fail)
              go_roundw
              case rel => exact ⟨m, j + 1, cur, rfl, by go_num, by omega, by omega, HC2.out, HW2.out⟩
              case measure => simp [intOf]; omega
            · have c := fun W => new2_no pk pv qk qv W hpq
              have HC2 := Lib.hid (HC.out.other (by omega) (by rw [HN.out]; omega) hp hq hpq)
              have HP := Lib.hid ((HC.out.suf (k + j) (by omega)).trans hp)
              obtain ⟨r, hr⟩ : ∃ r, cur[m]? = some r := ⟨_, List.getElem?_eq_getElem (by rw [HW.out.len]; omega)⟩
              clear hp hq ht hpq HC
              go_wp2_with (fail)
              go_quiet_grown (first | (go_at_call 42; exact Calls.grown_of (c _)))
              have HW2 := Lib.hid (HW.out.grown nq osq)
              clear g0 g1 g2 g3 HW
              generalize grow (wr.drewN nq) osq = w3 at HW2 ⊢
              clear nq osq
              obtain ⟨c0, c1, -, -⟩ := HW2.out.cell (k + j) _ HP.out
              obtain ⟨d0, d1, d2, d3⟩ := HW2.out.cell m r hr
              have HW3 := Lib.hid (HW2.out.put m (pk, pv))
              rw [show (k + j) * 2 = k * 2 + j * 2 by omega] at c0 c1
              dsimp only at c0 c1 d0 d1 HW3
              have hm0 : (0 : Int) ≤ (m : Int) := by omega
              have hmn : (m : Int) < (n : Int) := by omega
              clear HP hr HW2
              go_wp2_with (fail)
              go_roundw
              case rel => exact ⟨m + 1, j + 1, _, by go_num, by go_num, by omega, by omega, HC2.out, HW3.out⟩
              case measure => simp [intOf]; omega
          · have hjn : ¬ (j : Int) < (n : Int) - (k : Int) := by omega
            have hjn2 : ¬ (j : Int) < ((n - k : Nat) : Int) := by omega
            have hkjn : k + j = n := by omega
            have hmn : m < n := by omega
            have hm0 : (0 : Int) ≤ (m : Int) := by omega
            have hmnI : (m : Int) ≤ (n : Int) := by omega
            have hmcI : (m : Int) ≤ (cap : Int) := by omega
            have hmc : ¬ cap = m := by omega
            have hcl := fun ty => run_clear_prs wr ty g (m * 2) (n - m) (cap - m) (by omega)
              (fun i hi => by
                obtain ⟨r, hr⟩ : ∃ r, cur[m + i / 2]? = some r := ⟨_, List.getElem?_eq_getElem (by rw [HW.out.len]; omega)⟩
                obtain ⟨c0, c1, _, _⟩ := HW.out.cell _ r hr
                rcases Nat.mod_two_eq_zero_or_one i with e | e
                · rw [show m * 2 + i = (m + i / 2) * 2 by omega, c0]; rfl
                · rw [show m * 2 + i = (m + i / 2) * 2 + 1 by omega, c1]; rfl)
              (fun i hi => by
                obtain ⟨r, hr⟩ : ∃ r, cur[m + i / 2]? = some r := ⟨_, List.getElem?_eq_getElem (by rw [HW.out.len]; omega)⟩
                obtain ⟨_, _, c0, c1⟩ := HW.out.cell _ r hr
                rcases Nat.mod_two_eq_zero_or_one i with e | e
                · rw [show m * 2 + i = (m + i / 2) * 2 by omega, c0]
                · rw [show m * 2 + i = (m + i / 2) * 2 + 1 by omega, c1])
            have HF := Lib.hid (HW.out.row.cleared HW.out.len m (by omega) (List.replicate ((n - m) * 2) (.int .i64 0)))
            have HO := Lib.hid (HW.out.o.trans (only_cellsP g (List.replicate ((n - m) * 2) (.int .i64 0)) (m * 2) wr) (fun k hk _ => hk))
            have HE : Hid (cur.take m = ded l n ∧ m = (ded l n).length) := Lib.hid ⟨by rw [← hkjn]; exact HC.out.pre, by rw [← hkjn]; exact HC.out.hm⟩
            clear HC HW
            go_wp2_with (simp only [hcl])
            go_ret
            have hF := HF.out
            obtain ⟨e1, e2⟩ := HE.out
            rw [e1] at hF
            unfold CmpIs
            rw [← e2]
            exact ⟨rfl, hF, HO.out⟩
      · have c := fun W => new2_no pk pv qk qv W hpq
        have HD2 : Hid (ded l (k + 1) = l.take (k + 1)) := Lib.hid (by rw [ded_other (by omega) hp hq hpq, HD.out, List.take_add_one, hp]; rfl)
        clear hp hq hy hpq
        go_wp2_with (fail)
        go_quiet_grown (first | (go_at_call 42; exact Calls.grown_of (c _)))
        have HW2 := Lib.hid (HW.out.grown nq osq)
        clear g0 g1 g2 g3 HW
        generalize grow (wr.drewN nq) osq = w2 at HW2 ⊢
        clear nq osq
        go_wp2_with (fail)
        go_roundw
        case rel => exact ⟨k + 1, by go_num, by omega, by omega, HD2.out, HW2.out⟩
        case measure => simp [intOf]; omega
    · obtain rfl : k = n := by omega
      go_wp2_with (fail)
      go_ret
      have hd := HD.out
      have hn := HN.out
      rw [List.take_of_length_le (by omega)] at hd
      rw [hd]
      have hr := HW.out.row
      unfold CmpIs
      rw [hn]
      exact ⟨rfl, hr, HW.out.o⟩
end Go.Proofs.Ytadfnbmogobopaa
