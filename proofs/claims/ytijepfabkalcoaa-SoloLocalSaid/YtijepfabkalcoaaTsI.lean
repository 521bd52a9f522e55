/- tree.Set exactly. No condition: lemmas. tree.Set of a leaf. No condition: lemmas. osierref1.With of up to 3000 pairs; which leaf may hold a key. No condition: lemmas. -/
import Derived.Test.YtijepfabkalcoaaTrR
namespace Go.Proofs.Ytijepfabkalcoaa
open Go.RowKit
set_option linter.all false

attribute [local go_sem] mkN_run
/-- The leaf that Set sets. -/
def lfn (l : List Pr) (st : Int) : Nd := ⟨false, 0, 0, 0, l, st⟩
end Go.Proofs.Ytijepfabkalcoaa

namespace Go.Proofs.Ytijepfabkalcoaa
open Go.RowKit
set_option linter.all false

attribute [local go_sem] mkN_run
end Go.Proofs.Ytijepfabkalcoaa

namespace Go.Proofs.Ytijepfabkalcoaa
open Go.RowKit
set_option linter.all false

end Go.Proofs.Ytijepfabkalcoaa

