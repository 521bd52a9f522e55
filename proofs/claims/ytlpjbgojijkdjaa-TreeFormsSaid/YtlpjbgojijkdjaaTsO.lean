/- osierlaw14.ints exactly. No condition: lemmas. -/
import Derived.Test.YtlpjbgojijkdjaaTrH
namespace Go.Proofs.Ytlpjbgojijkdjaa
open Go.RowKit
set_option linter.all false

set_option maxRecDepth 100000 in
set_option maxHeartbeats 6400000 in
theorem ints_any (a a2 : Option Addr) (cap cap2 : Nat) (l m : List Int) (w : World) (h : RI w a cap l) (h2 : RI w a2 cap2 m) (B : Bool) (hB : decide (l = m) = B) :
    Calls Try.prog 19 #[.slice a l.length cap, .slice a2 m.length cap2] w fun e w' => e = .returned (.bool B) ∧ Below w.heap.size w w' := by
  by_cases hlen : l.length = m.length
  · have HB := Lib.hid hB
    have HH := Lib.hid h
    have HH2 := Lib.hid h2
    have hc1 := h.1
    have hc2 := h.2.1
    have hc3 := h2.1
    have hc4 := h2.2.1
    have HLEN := Lib.hid hlen
    have hlen' : ((l.length : Int) == (m.length : Int)) = true := by simp [hlen]
    rw [← hlen] at hc3
    rw [← hlen]
    clear h h2 hB hlen
    unfold maxLen at hc2 hc4
    go_enter Try.func19, Try.ntmps19
    go_wp2_with (fail)
    go_loopw [13] (fun i wr => ∃ n : Nat, n ≤ l.length ∧ i = .int .i64 n ∧ (∀ j, j < n → l[j]? = m[j]?) ∧ Below w.heap.size w wr) (fun i _ => l.length - (intOf i).toNat)
    case atStart => exact ⟨0, Nat.zero_le _, rfl, fun j hj => absurd hj (Nat.not_lt_zero j), Below.refl _ _⟩
    case round =>
      obtain ⟨n, hn, rfl, hall, hb⟩ := hrel
      have HALL := Lib.hid hall
      clear hall
      by_cases hlt : n < l.length
      · obtain ⟨q, hq⟩ : ∃ q, l[n]? = some q := ⟨_, List.getElem?_eq_getElem hlt⟩
        obtain ⟨q', hq'⟩ : ∃ q, m[n]? = some q := ⟨_, List.getElem?_eq_getElem (by have := HLEN.out; omega)⟩
        obtain ⟨b, o, rfl, c0⟩ := (HH.out.below hb).2.2 n q hq
        obtain ⟨b', o', rfl, d0⟩ := (HH2.out.below hb).2.2 n q' hq'
        have HQ := Lib.hid (And.intro hq hq')
        clear hq hq'
        have hn0 : (0 : Int) ≤ (n : Int) := by omega
        have hnl : (n : Int) < (l.length : Int) := by omega
        by_cases he0 : q = q'
        · subst he0
          go_upto_region 6 with (fail)
          go_quiet (fail)
          go_wp2_with (fail)
          go_roundw
          case rel => exact ⟨n + 1, by omega, by go_num, fun j hj => by
            rcases Nat.lt_succ_iff_lt_or_eq.1 hj with hj | rfl
            · exact HALL.out j hj
            · rw [HQ.out.1, HQ.out.2], below_drewN hb _⟩
          case measure => simp [intOf]; omega
        · have hne : B = false := by
            rw [← HB.out]
            refine decide_eq_false (fun e => he0 ?_)
            subst e
            have := HQ.out.1.symm.trans HQ.out.2
            simpa using this
          have he0' : (q == q') = false := by simp [he0]
          have he0'' : (q != q') = true := by simp [he0]
          go_upto_region 6 with (fail)
          go_quiet (fail)
          go_wp2_with (fail)
          go_ret
          exact ⟨by rw [hne]; rfl, below_drewN hb _⟩
      · obtain rfl : n = l.length := by omega
        have hlm : l = m := by
          apply List.ext_getElem?
          intro i
          by_cases hi : i < l.length
          · exact HALL.out i hi
          · rw [List.getElem?_eq_none (by omega), List.getElem?_eq_none (by have := HLEN.out; omega)]
        have hne : B = true := by rw [← HB.out]; exact decide_eq_true hlm
        have HE := Lib.hid hne
        clear hlm hne
        go_wp2_with (fail)
        go_ret
        exact ⟨by rw [HE.out]; rfl, hb⟩
  · have hne : B = false := by
      rw [← hB]
      exact decide_eq_false (fun e => hlen (by rw [e]))
    have HE := Lib.hid hne
    have hlen' : ((l.length : Int) == (m.length : Int)) = false := by rw [beq_eq_false_iff_ne]; omega
    clear h h2 hB hne
    go_enter Try.func19, Try.ntmps19
    go_wp2_with (fail)
    go_ret
    exact ⟨by rw [HE.out]; rfl, Below.refl _ _⟩
#print axioms ints_any
end Go.Proofs.Ytlpjbgojijkdjaa
