/- Contract of look.Below. -/
import Derived.Test.YtmbeaefgakfbnaaLk2
namespace Go.Proofs.Ytmbeaefgakfbnaa
open Go.RowKit
set_option linter.all false

end Go.Proofs.Ytmbeaefgakfbnaa
