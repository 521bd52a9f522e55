/- order.returned, refused; osierref18.refused, Before. No condition: lemmas. -/
import Derived.Test.YtadfnbmogobopaaPaD
import Derived.Test.YtadfnbmogobopaaOrM
import Derived.Deep.RegionHeld
namespace Go.Proofs.Ytadfnbmogobopaa
open Go.RowKit
set_option linter.all false
set_option maxRecDepth 20000

section
variable {P : Program} {ops : Array Oper} {Q : Exit → Act → World → Prop} {md : Region.Mode} {S : World → Prop}
/-- One operation of a region is taken; skipped. -/
theorem tkO {oi : Oper} {fuel : Nat} {listed : Array Bool} {a : Act} {w : World} (i : Nat) (v : Value) (hi : ops[i]? = some oi)
    (hc : (Region.noSelect ops && Region.free md ops listed i && (Region.ready md ops listed).contains i) = true)
    (hQ : ∀ c a w, Q (.panic c) (a.put oi.dst v) w → Q (.panic c) a w)
    (hy : Region.wanted oi (yielded ops a.tmps) = true ∧ ∀ w, S w → (execOp a.eval oi).run P w = .ok (.value v) w) (hS : S w)
    (h : wpAnyH P md ops Q S fuel (listed.setIfInBounds i true) (a.put oi.dst v) w) : wpAnyH P md ops Q S (fuel + 1) listed a w := by
  simp only [Bool.and_eq_true] at hc
  exact wpAnyH_take hi hc.1.1 hc.1.2 hc.2 hQ (.inl hy) hS h
theorem tsO {oi : Oper} {fuel : Nat} {listed : Array Bool} {a : Act} {w : World} (i : Nat) (hi : ops[i]? = some oi)
    (hc : (Region.noSelect ops && Region.free md ops listed i && (Region.ready md ops listed).contains i) = true)
    (hQ : ∀ c a w, Q (.panic c) (a.put oi.dst undef) w → Q (.panic c) a w)
    (hy : Region.wanted oi (yielded ops a.tmps) = false ∧ (undef : Value) = undef) (hS : S w)
    (h : wpAnyH P md ops Q S fuel (listed.setIfInBounds i true) (a.put oi.dst undef) w) : wpAnyH P md ops Q S (fuel + 1) listed a w := by
  simp only [Bool.and_eq_true] at hc
  exact wpAnyH_take hi hc.1.1 hc.1.2 hc.2 hQ (.inr hy) hS h
end
set_option maxRecDepth 100000 in
set_option maxHeartbeats 6400000 in
theorem oret_any (m : ClD) (pa : Option Addr) (pc : Nat) (w : World) (B : Bool) (hB : decide (0 ≤ m.g) = B) : Calls Try.prog 54 #[clV m pa pc] w fun e w' => e = .returned (.bool B) ∧ Below w.heap.size w w' := by
  obtain ⟨t, f, g, ⟨oc, ok, oh, ov⟩, ⟨ae, ao, ak, av, an, ap⟩⟩ := m
  unfold clV
  dsimp only at hB ⊢
  have HB := Lib.hid hB
  clear hB
  go_enter Try.func54, Try.ntmps54
  go_wp2_with (fail)
  go_ret
  exact ⟨by rw [← HB.out]; rfl, pal _⟩
set_option maxRecDepth 100000 in
set_option maxHeartbeats 6400000 in
theorem oref_any (m : ClD) (pa : Option Addr) (pc : Nat) (w : World) (B : Bool) (hB : decide (¬ m.a.err = 0) = B) : Calls Try.prog 55 #[clV m pa pc] w fun e w' => e = .returned (.bool B) ∧ Below w.heap.size w w' := by
  obtain ⟨t, f, g, ⟨oc, ok, oh, ov⟩, ⟨ae, ao, ak, av, an, ap⟩⟩ := m
  unfold clV
  dsimp only at hB ⊢
  have HB := Lib.hid hB
  clear hB
  go_enter Try.func55, Try.ntmps55
  go_wp2_with (fail)
  go_ret
  refine ⟨?_, pal _⟩
  rw [← HB.out]
  by_cases h : ae = 0 <;> simp [h]
end Go.Proofs.Ytadfnbmogobopaa
