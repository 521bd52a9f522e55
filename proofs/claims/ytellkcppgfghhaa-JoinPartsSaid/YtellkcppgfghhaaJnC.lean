/- Contracts of package join: copied, upTo: how large what they tell is. -/
import Derived.Test.YtellkcppgfghhaaJnI
import Derived.Deep.QuietTactic
import Derived.BigQuiet
namespace Go.Proofs.Ytellkcppgfghhaa
open Go.RowKit
set_option linter.all false

section
variable {w : World}
set_option maxRecDepth 100000 in
set_option maxHeartbeats 3200000 in
theorem copied_any {S S' : Nat → Prop} {a1 a2 : Option Addr} {c1 c2 n1 n2 : Nat} {f g : List Int} (hf : Nums w S (.slice a1 n1 c1) f) (hg : Nums w S' (.slice a2 n2 c2) g) (h1 : n1 = f.length) (h2 : n2 = g.length)
    (hc1 : n1 ≤ c1) (hc2 : n2 ≤ c2) (hl : f.length + g.length ≤ 100000) :
    Calls Try.prog 61 #[.slice a1 n1 c1, .slice a2 n2 c2] w fun e w' => (∃ c : Nat, c ≤ f.length + g.length ∧ e = .returned (.int .i64 c)) ∧ Below w.heap.size w w' := by
  have HF := Lib.hid hf
  have HG := Lib.hid hg
  have H1 := Lib.hid h1
  have H2 := Lib.hid h2
  have HL := Lib.hid hl
  clear hf hg hl
  go_enter Try.func61, Try.ntmps61
  go_wp2_with (fail)
  go_loopw [5, 6] (fun i j wr => ∃ m k : Nat, i = .int .i64 m ∧ j = .int .i64 k ∧ m ≤ n1 ∧ k ≤ n2 ∧ Below w.heap.size w wr) (fun i j _ => n1 + n2 - ((intOf i).toNat + (intOf j).toNat))
  case atStart => exact ⟨0, 0, rfl, rfl, Nat.zero_le _, Nat.zero_le _, Below.refl _ _⟩
  case round =>
    obtain ⟨m, k, rfl, rfl, hm, hk, hb⟩ := hrel
    have HLL := Lib.hid (show n1 + n2 ≤ 100000 by have := HL.out; omega)
    clear h1 h2
    by_cases hlt : m < n1
    · by_cases hlt2 : k < n2
      · obtain ⟨x, hx⟩ : ∃ x, f[m]? = some x := ⟨_, List.getElem?_eq_getElem (by have := H1.out; omega)⟩
        obtain ⟨y, hy⟩ : ∃ y, g[k]? = some y := ⟨_, List.getElem?_eq_getElem (by have := H2.out; omega)⟩
        obtain ⟨g1, rfl, _, d1⟩ := HF.out.at hx
        obtain ⟨g2, rfl, _, d2⟩ := HG.out.at hy
        have e1 := (hb.cell (p := ⟨g1, m, none⟩) (World.block_lt_of_cell? w _ d1)).trans d1
        have e2 := (hb.cell (p := ⟨g2, k, none⟩) (World.block_lt_of_cell? w _ d2)).trans d2
        have hm0 : (0 : Int) ≤ (m : Int) := by omega
        have hk0 : (0 : Int) ≤ (k : Int) := by omega
        have hm1 : (m : Int) < (n1 : Int) := by omega
        have hk1 : (k : Int) < (n2 : Int) := by omega
        clear hx hy d1 d2
        obtain ⟨b, hbb⟩ : ∃ b, abv x y = b := ⟨_, rfl⟩
        have ca := fun W => mixAbove_any x y W
        rw [hbb] at ca
        clear hbb
        cases b
        · go_wp2_with (fail)
          go_quiet ((go_at_call 52; exact Calls.quiet_of_same (((ca _).mono fun _ _ h => ⟨h.1, h.2.symm⟩))))
          have hll := HLL.out
          go_wp2_with (fail)
          go_roundw
          case rel => exact ⟨m, k + 1, rfl, by go_num, by omega, by omega, below_drewN hb _⟩
          case measure => simp [intOf]; omega
        · go_wp2_with (fail)
          go_quiet ((go_at_call 52; exact Calls.quiet_of_same (((ca _).mono fun _ _ h => ⟨h.1, h.2.symm⟩))))
          have hll := HLL.out
          go_wp2_with (fail)
          go_roundw
          case rel => exact ⟨m + 1, k, by go_num, rfl, by omega, by omega, below_drewN hb _⟩
          case measure => simp [intOf]; omega
      · obtain rfl : k = n2 := by omega
        have hll := HLL.out
        go_wp2_with (fail)
        go_ret
        exact ⟨⟨m + k, by have := H1.out; have := H2.out; omega, rfl⟩, hb⟩
    · obtain rfl : m = n1 := by omega
      have hll := HLL.out
      go_wp2_with (fail)
      go_ret
      exact ⟨⟨m + k, by have := H1.out; have := H2.out; omega, rfl⟩, hb⟩

set_option maxRecDepth 100000 in
set_option maxHeartbeats 3200000 in
theorem upTo_any {S : Nat → Prop} {a1 : Option Addr} {c1 n1 : Nat} {f : List Int} (k : Int) (hf : Nums w S (.slice a1 n1 c1) f) (h1 : n1 = f.length) (hc1 : n1 ≤ c1) (hl : f.length ≤ 100000) :
    Calls Try.prog 62 #[.slice a1 n1 c1, .int .i64 k] w fun e w' => (∃ c : Nat, c ≤ f.length ∧ e = .returned (.int .i64 c)) ∧ w = w' := by
  have HF := Lib.hid hf
  have H1 := Lib.hid h1
  have HL := Lib.hid hl
  clear hf hl
  go_enter Try.func62, Try.ntmps62
  go_wp2_with (fail)
  go_loop [5] (fun i => ∃ m : Nat, i = .int .i64 m ∧ m ≤ n1) (fun i => n1 - (intOf i).toNat)
  case atStart => exact ⟨0, rfl, Nat.zero_le _⟩
  case round =>
    obtain ⟨m, rfl, hm⟩ := hrel
    have hll : n1 ≤ 100000 := by have := HL.out; omega
    clear h1
    by_cases hlt : m < n1
    · obtain ⟨x, hx⟩ : ∃ x, f[m]? = some x := ⟨_, List.getElem?_eq_getElem (by have := H1.out; omega)⟩
      obtain ⟨g1, rfl, _, d1⟩ := HF.out.at hx
      have hm0 : (0 : Int) ≤ (m : Int) := by omega
      have hm1 : (m : Int) < (n1 : Int) := by omega
      clear hx
      obtain ⟨b, hbb⟩ : ∃ b, abv x k = b := ⟨_, rfl⟩
      have ca := fun W => mixAbove_any x k W
      rw [hbb] at ca
      clear hbb
      cases b
      · go_wp2_with (go_at_call 52; ((with_reducible refine (ca _).mono ?_); clear ca; rintro e w1 ⟨rfl, rfl⟩))
        go_ret
        exact ⟨⟨m, by have := H1.out; omega, rfl⟩, rfl⟩
      · go_wp2_with (go_at_call 52; ((with_reducible refine (ca _).mono ?_); clear ca; rintro e w1 ⟨rfl, rfl⟩))
        go_round
        case rel => exact ⟨m + 1, by go_num, by omega⟩
        case measure => simp [intOf]; omega
    · obtain rfl : m = n1 := by omega
      go_wp2_with (fail)
      go_ret
      exact ⟨⟨m, by have := H1.out; omega, rfl⟩, rfl⟩

theorem toLeft_any (k v x y s h : Int) : Calls Try.prog 60 #[.agg #[.int .i64 k, .int .i64 v, .int .i64 x, .int .i64 y, .int .i64 s, .int .i64 h]] w fun e w' => e = .returned (.int .i64 x) ∧ Below w.heap.size w w' := by
  go_enter Try.func60, Try.ntmps60
  go_wp2_with (fail)
  go_ret
  exact ⟨rfl, (Below.refl _ _).alloc (Nat.le_refl _) _⟩
theorem toRight_any (k v x y s h : Int) : Calls Try.prog 63 #[.agg #[.int .i64 k, .int .i64 v, .int .i64 x, .int .i64 y, .int .i64 s, .int .i64 h]] w fun e w' => e = .returned (.int .i64 y) ∧ Below w.heap.size w w' := by
  go_enter Try.func63, Try.ntmps63
  go_wp2_with (fail)
  go_ret
  exact ⟨rfl, (Below.refl _ _).alloc (Nat.le_refl _) _⟩
end
end Go.Proofs.Ytellkcppgfghhaa
