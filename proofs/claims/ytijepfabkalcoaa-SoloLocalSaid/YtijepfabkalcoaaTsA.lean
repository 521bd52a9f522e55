/- osierref1.One exactly. No condition: a lemma. What Plain tells, in one word; osierref1.Leaves out of Plain. No condition: lemmas. -/
import Derived.Test.YtijepfabkalcoaaTrU
import Derived.Test.YtijepfabkalcoaaTrR
import Derived.Test.YtijepfabkalcoaaTrF
namespace Go.Proofs.Ytijepfabkalcoaa
open Go.RowKit

/-- Plain's answer. -/
def PlO (N : List Nd) (t : Int) (x : Bool) (P : List Nd) : Prop := (∃ s, Tr N s t ∧ x = true ∧ P = lay N s 0) ∨ ((∀ s, ¬ Tr N s t) ∧ x = false ∧ P = [])
def PlB (w : World) (x : Bool) (P : List Nd) (e : Ending) (w' : World) : Prop := ∃ ao cp, e = .returned (.tuple #[.agg #[.int .i64 0, .slice ao P.length cp], .bool x]) ∧ Ns w' ao cp P ∧ Below w.heap.size w w'
theorem PlO.small {N : List Nd} {t : Int} {x : Bool} {P : List Nd} (h : PlO N t x P) (hsm : Small N) : Small P := by
  rcases h with ⟨s, h, rfl, rfl⟩ | ⟨_, rfl, rfl⟩
  · exact lay_small h hsm
  · exact ⟨Nat.zero_le _, fun n hn => (by cases hn)⟩
theorem PlO.tr {N : List Nd} {t : Int} {x : Bool} {P : List Nd} (h : PlO N t x P) : x = true ↔ ∃ s, Tr N s t := by
  rcases h with ⟨s, h, rfl, rfl⟩ | ⟨h, rfl, rfl⟩
  · exact ⟨fun _ => ⟨s, h⟩, fun _ => rfl⟩
  · exact ⟨fun h => (by cases h), fun ⟨s, hs⟩ => absurd hs (h s)⟩
/-- osierref1.Plain is right of this tree. -/
def RP (t : Int) (a : Option Addr) (cap : Nat) (N : List Nd) (x : Bool) (P : List Nd) : Prop := ∀ W, Ns W a cap N → Calls Try.prog 15 #[trv t a cap N] W (PlB W x P)

end Go.Proofs.Ytijepfabkalcoaa

