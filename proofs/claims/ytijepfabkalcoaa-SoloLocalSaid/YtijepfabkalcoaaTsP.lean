/- osierref1.Plain of any small tree. No condition: lemmas. -/
import Derived.Test.YtijepfabkalcoaaTsA
import Derived.Test.YtijepfabkalcoaaPnE
namespace Go.Proofs.Ytijepfabkalcoaa
open Go.RowKit
set_option linter.all false

theorem rp_any {t : Int} {a : Option Addr} {cap : Nat} {N : List Nd} {x : Bool} {P : List Nd} (hsm : Small N) (h : PlO N t x P) : RP t a cap N x P := by
  intro W hN
  rcases h with ⟨s, h, rfl, rfl⟩ | ⟨h, rfl, rfl⟩
  · exact rplain_yes t a cap N W hN hsm s h
  · exact (rplain_no t a cap N W hN hsm h).mono (fun e w' h => ⟨none, 0, h.1, Ns.none _, h.2⟩)
end Go.Proofs.Ytijepfabkalcoaa

