/- What the laws of stage 15 share: the tree in its box, a place drawn out of so many. No condition: lemmas. -/
import Derived.Test.YtpdliokpbnpppaaGreatAeE
import Derived.Test.YtpdliokpbnpppaaGreatTsF
import Derived.Test.YtpdliokpbnpppaaGreatAdR
namespace Go.Proofs.YtpdliokpbnpppaaGreat
open Go.RowKit
set_option linter.all false
end Go.Proofs.YtpdliokpbnpppaaGreat
