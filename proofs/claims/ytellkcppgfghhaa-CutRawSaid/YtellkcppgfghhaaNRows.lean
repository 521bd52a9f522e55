/- A parameter that is a slice of slices of integers. -/
import Derived.Test.YtellkcppgfghhaaNArgs
import Derived.Deep.Matrix
namespace Go.Proofs.Ytellkcppgfghhaa
open Go.RowKit Go.Deep Go.ChangeShapes Go.WideShapes
set_option linter.all false

/-- A row: where it lies, its spare, its numbers. -/
structure IRow where
  a : Option Addr
  cap : Nat
  vs : List Int
instance : Inhabited IRow := ⟨⟨none, 0, []⟩⟩

def IRows (w : World) (a : Option Addr) (len cap : Nat) (rs : List IRow) : Prop :=
  rs.length = len ∧ len ≤ cap ∧ cap ≤ maxLen ∧ ∀ n r, rs[n]? = some r → ∃ b o, a = some ⟨b, o, none⟩ ∧ w.cell? ⟨b, o + n, none⟩ = some (.slice r.a r.vs.length r.cap) ∧ Vals w r.a r.cap r.vs ∧ (∀ v ∈ r.vs, (Lit.int .i64 v).wf = true)

theorem Vals.below {w w' : World} {a : Option Addr} {cap : Nat} {vs : List Int} (h : Vals w a cap vs) (hb : Below w.heap.size w w') : Vals w' a cap vs :=
  ⟨h.1, h.2.1, fun x hx n hn => (hb.cell (World.block_lt_of_cell? w _ (h.2.2 x hx n hn))).trans (h.2.2 x hx n hn)⟩

section
variable {H : Type} {enc : TypeId × Value → H} {w : World} {fuel : Nat} {x : DataW H × List MemPlace}

theorem open_rows {v : Value} (h : DataW.trod enc Try.prog w 0 (fun _ => true) true fuel 41 [v] = some x) : ∃ a len cap rs, v = .slice a len cap ∧ IRows w a len cap rs := by
  rcases open_int_rows Try.underlying41 Try.underlying42 Try.underlying3 (by kernel_rfl) (by kernel_rfl) h with ⟨hcs, _⟩ | ⟨y, len, cap, A, L, C, Z, hcs, _, hl, hm, _, hr⟩
  · simp at hcs
    exact ⟨none, 0, 0, [], hcs, rfl, Nat.le_refl _, Nat.zero_le _, fun n r hn => by simp at hn⟩
  · simp at hcs
    refine ⟨some y, len, cap, (List.range len).map fun r => ⟨A r, C r, (Z r).take (L r)⟩, hcs, by simp, hl, hm, fun n r hn => ?_⟩
    have hlt : n < len := by
      rcases Nat.lt_or_ge n len with h | h
      · exact h
      · rw [List.getElem?_eq_none (by simpa using h)] at hn; cases hn
    rw [List.getElem?_map, List.getElem?_range hlt] at hn
    simp at hn
    subst hn
    obtain ⟨hc, hlc, hcm, hz, hw, hnone, hsome⟩ := hr n (by omega)
    obtain ⟨b, o, spot⟩ := y
    have hs : spot = none := by simpa [Addr.add] using World.cell?_spot (hr 0 (by omega)).1
    subst hs
    rw [add_lit] at hc
    have hlen : ((Z n).take (L n)).length = L n := by rw [List.length_take]; omega
    refine ⟨b, o, rfl, by dsimp only; rw [hlen]; exact hc, ⟨by dsimp only; omega, fun e => ?_, fun a' e c hcl => ?_⟩, fun v hv => hw v (List.mem_of_mem_take hv)⟩
    · have := hnone e
      dsimp only
      exact ⟨List.eq_nil_of_length_eq_zero (by omega), this⟩
    · dsimp only at hcl e ⊢
      rw [hlen] at hcl
      rw [(hsome a' e).2 c (by omega)]
      simp [List.getD_eq_getElem?_getD, List.getElem?_take, hcl]
end
end Go.Proofs.Ytellkcppgfghhaa
