/- 'osierlaw3.awake'. -/
import Derived.Test.YtbmlpdkbiipcmaaNdG
namespace Go.Proofs.Ytbmlpdkbiipcmaa
open Go.RowKit
set_option linter.all false

theorem hung_one : Hung [(1, [1, 2, 0, 0, 1, 1])] 1 1 1 := ⟨.inr rfl, rfl, rfl, by omega, by omega, by omega, by omega⟩

end Go.Proofs.Ytbmlpdkbiipcmaa
