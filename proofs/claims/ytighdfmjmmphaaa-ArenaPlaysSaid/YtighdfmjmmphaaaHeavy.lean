/- 'osierlaw2.Heavy': 0 just if there are at most 200 calls, none with more than 40 values. -/
import Derived.Test.YtighdfmjmmphaaaArgs
namespace Go.Proofs.Ytighdfmjmmphaaa
open Go.RowKit
set_option linter.unusedVariables false

def Light (cs : List CallD) : Prop := cs.length ≤ 200 ∧ ∀ c ∈ cs, c.vs.length ≤ 40

def HeavySays (w : World) (cs : List CallD) (e : Ending) (w' : World) : Prop :=
  Below w.heap.size w w' ∧ ((Light cs ∧ e = .returned (.int .i64 0)) ∨ (¬ Light cs ∧ ∃ h : Int, 0 < h ∧ e = .returned (.int .i64 h)))

theorem heavySays_no {w w' : World} {cs : List CallD} (hb : Below w.heap.size w w') (n : Nat) (c : CallD) (hc : cs[n]? = some c) (h : 200 ≤ n ∨ 40 < c.vs.length) : HeavySays w cs (.returned (.int .i64 ((n : Int) + 1))) w' := by
  refine ⟨hb, .inr ⟨fun hl => ?_, (n : Int) + 1, by omega, rfl⟩⟩
  rcases h with h | h
  · have := (List.getElem?_eq_some_iff.1 hc).1
    have := hl.1
    omega
  · have := hl.2 c (List.mem_of_getElem? hc)
    omega

set_option maxRecDepth 100000 in
set_option maxHeartbeats 1600000 in
theorem heavy_any (w : World) (a : Option Addr) (len cap : Nat) (cs : List CallD) (h : ArgCalls w a len cs) : Calls Try.prog 9 #[.slice a len cap] w (HeavySays w cs) := by
  obtain ⟨hlen, hm, hcs⟩ := h
  have HC := Lib.hid hcs
  have HL := Lib.hid hlen
  have hm2 := hm
  unfold maxLen at hm
  clear hcs hlen
  go_enter Try.func9, Try.ntmps9
  go_wp2_with (fail)
  go_loopw [7] (fun i wr => ∃ n : Nat, n ≤ len ∧ n ≤ 200 ∧ i = .int .i64 n ∧ (∀ c ∈ cs.take n, c.vs.length ≤ 40) ∧ Below w.heap.size w wr) (fun i _ => len - (intOf i).toNat)
  case atStart => exact ⟨0, Nat.zero_le _, Nat.zero_le _, rfl, by simp, Below.refl _ _⟩
  case round =>
    obtain ⟨n, hn, hn2, rfl, hall, hb⟩ := hrel
    have HA := Lib.hid hall
    clear hall
    by_cases hlt : n < len
    · obtain ⟨c, hc⟩ : ∃ c, cs[n]? = some c := ⟨_, List.getElem?_eq_getElem (by rw [HL.out]; exact hlt)⟩
      obtain ⟨b, o, va, vc, rfl, hat⟩ := HC.out n c hc
      obtain ⟨c0, c1, c2, c3, c4, c5⟩ := hat.below hb
      obtain ⟨m, hm'⟩ : ∃ m, c.vs.length = m := ⟨_, rfl⟩
      rw [hm'] at c5
      have HM := Lib.hid hm'
      clear hm'
      have HCC := Lib.hid hc
      clear hc hat
      by_cases h200 : 200 ≤ n
      · have h200' : (200 : Int) ≤ (n : Int) := by omega
        go_wp2_with (fail)
        go_ret
        refine heavySays_no (hb.trans ?_) n c HCC.out (.inl h200)
        have hz := hb.size
        repeat' (first | exact Below.refl _ _ | refine Below.setCell ?_ (by simp; omega) _ | refine Below.alloc ?_ (by (try simp); omega) _ | refine below_drewN ?_ _)
      · by_cases h40 : 40 < m
        · have h40' : (40 : Int) < (m : Int) := by omega
          go_wp2_with (fail)
          go_ret
          refine heavySays_no (hb.trans ?_) n c HCC.out (.inr (by rw [HM.out]; exact h40))
          have hz := hb.size
          repeat' (first | exact Below.refl _ _ | refine Below.setCell ?_ (by simp; omega) _ | refine Below.alloc ?_ (by (try simp); omega) _ | refine below_drewN ?_ _)
        · have h40' : ¬ (40 : Int) < (m : Int) := by omega
          have h200' : ¬ (200 : Int) ≤ (n : Int) := by omega
          go_wp2_with (fail)
          go_roundw
          case rel =>
            refine ⟨n + 1, by omega, by omega, by go_num, ?_, hb.trans ?_⟩
            · intro d hd
              rw [List.take_add_one, HCC.out] at hd
              simp at hd
              rcases hd with hd | rfl
              · exact HA.out d hd
              · rw [HM.out]; omega
            · have hz := hb.size
              repeat' (first | exact Below.refl _ _ | refine Below.setCell ?_ (by simp; omega) _ | refine Below.alloc ?_ (by (try simp); omega) _ | refine below_drewN ?_ _)
          case measure => simp [intOf]; omega
    · obtain rfl : n = len := by omega
      go_wp2_with (fail)
      go_ret
      refine ⟨hb, .inl ⟨⟨by rw [HL.out]; exact hn2, fun c hc => HA.out c (by rwa [List.take_of_length_le (by rw [HL.out]; exact Nat.le_refl _)])⟩, rfl⟩⟩
end Go.Proofs.Ytighdfmjmmphaaa
