/- plan.node: where it is bad, or nothing hangs. No condition: lemmas. -/
import Derived.Test.YtlpjbgojijkdjaaPnA
import Derived.Deep.CutRange
import Derived.Deep.CutBlock
import Derived.Deep.RegionHeld3
import Derived.Deep.RegionLaw
import Derived.Deep.QuietTactic
import Derived.BigQuiet
namespace Go.Proofs.Ytlpjbgojijkdjaa
open Go.RowKit
set_option linter.all false

section
variable {w0 W : World} {pb gs : Nat} {T : Int} {a : Option Addr} {cap : Nat} {N : List Nd} {sc : Nat} {vo : Value} {M : List RN} {sn : List Bool} {lo hi : Value} {t : Int}
set_option maxRecDepth 100000 in
set_option maxHeartbeats 6400000 in
theorem node_bad (hP : Pn w0 W pb gs T a cap N sc vo M sn true) (hl : N.length ≤ 460)  :
    Calls Try.prog 36 #[.pointer (some ⟨pb, 0, none⟩), .int .i64 t, lo, hi] W fun e w' => e = .returned (.int .i64 0) ∧ w' = W.setCell ⟨pb, 4, none⟩ (.bool true) := by
  have p1 := hP.b.at_ 1 _ rfl
  have p3 := hP.b.at_ 3 _ rfl
  have p4 := hP.b.at_ 4 _ rfl
  have f4 := hP.b.fr 4
  clear hP
  go_enter Try.func36, Try.ntmps36
  go_wp2_with (fail)
  go_ret
  exact ⟨rfl, rfl⟩
set_option maxRecDepth 100000 in
set_option maxHeartbeats 6400000 in
theorem node_neg (hP : Pn w0 W pb gs T a cap N sc vo M sn false) (hl : N.length ≤ 460) (h0 : t < 0) :
    Calls Try.prog 36 #[.pointer (some ⟨pb, 0, none⟩), .int .i64 t, lo, hi] W fun e w' => e = .returned (.int .i64 0) ∧ w' = W.setCell ⟨pb, 4, none⟩ (.bool true) := by
  have p1 := hP.b.at_ 1 _ rfl
  have p3 := hP.b.at_ 3 _ rfl
  have p4 := hP.b.at_ 4 _ rfl
  have f4 := hP.b.fr 4
  clear hP
  go_enter Try.func36, Try.ntmps36
  go_wp2_with (fail)
  go_ret
  exact ⟨rfl, rfl⟩
set_option maxRecDepth 100000 in
set_option maxHeartbeats 6400000 in
theorem node_over (hP : Pn w0 W pb gs T a cap N sc vo M sn false) (hl : N.length ≤ 460) (h0 : (N.length : Int) ≤ t) :
    Calls Try.prog 36 #[.pointer (some ⟨pb, 0, none⟩), .int .i64 t, lo, hi] W fun e w' => e = .returned (.int .i64 0) ∧ w' = W.setCell ⟨pb, 4, none⟩ (.bool true) := by
  have p1 := hP.b.at_ 1 _ rfl
  have p3 := hP.b.at_ 3 _ rfl
  have p4 := hP.b.at_ 4 _ rfl
  have f4 := hP.b.fr 4
  have h1 : ¬ t < 0 := by omega
  clear hP
  go_enter Try.func36, Try.ntmps36
  go_wp2_with (fail)
  go_ret
  exact ⟨rfl, rfl⟩
set_option maxRecDepth 100000 in
set_option maxHeartbeats 6400000 in
theorem node_seen (hP : Pn w0 W pb gs T a cap N sc vo M sn false) (hl : N.length ≤ 460) {i : Nat} (hil : i < N.length) (hs : sn[i]? = some true) (ht : t = (i : Int)) :
    Calls Try.prog 36 #[.pointer (some ⟨pb, 0, none⟩), .int .i64 t, lo, hi] W fun e w' => e = .returned (.int .i64 0) ∧ w' = W.setCell ⟨pb, 4, none⟩ (.bool true) := by
  have p1 := hP.b.at_ 1 _ rfl
  have p3 := hP.b.at_ 3 _ rfl
  have p4 := hP.b.at_ 4 _ rfl
  have f4 := hP.b.fr 4
  subst ht
  have c0 := hP.s.at_ i _ hs
  have h0 : (0 : Int) ≤ (i : Int) := by omega
  have h1 : (i : Int) < (N.length : Int) := by omega
  clear hs
  clear hP
  go_enter Try.func36, Try.ntmps36
  go_wp2_with (fail)
  go_ret
  exact ⟨rfl, rfl⟩
end
theorem pn_of_bad {w0 W : World} {pb gs : Nat} {T : Int} {a : Option Addr} {cap : Nat} {N : List Nd} {sc : Nat} {vo : Value} {M : List RN} {sn : List Bool} {bad : Bool} (hP : Pn w0 W pb gs T a cap N sc vo M sn bad) {t : Int} {lo hi : Option Int} {e : Ending} {w' : World} (h : e = .returned (.int .i64 0) ∧ w' = W.setCell ⟨pb, 4, none⟩ (.bool true)) (hn : bad = false → ∀ s, ¬ Part N sn t lo hi s) :
    PnIs w0 pb gs T a cap N sc vo M sn bad t lo hi W e w' := by
  obtain ⟨rfl, rfl⟩ := h
  refine ⟨0, vo, M, sn, true, rfl, hP.setBad true, (only_pb _ _).mono (fun i hi _ => .inl hi), fun k hk => .inl hk, ?_⟩
  cases bad
  · exact po_no (hn rfl) (Nat.le_refl _)
  · exact po_bad
end Go.Proofs.Ytlpjbgojijkdjaa
