/- Contracts of mix.Prio, mix.Above. -/
import Derived.Test.YtbaeemonkgllhaaRows
import Derived.Test.YtbaeemonkgllhaaMath
import Derived.Lib.Hide
namespace Go.Proofs.Ytbaeemonkgllhaa
open Go.ChangeShapes Go.WideShapes Go.ChangeAt Go.RowKit
set_option linter.all false

end Go.Proofs.Ytbaeemonkgllhaa
