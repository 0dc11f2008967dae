/- part: Align, [0, 1, 2, 3, 4, 5, 6, 7, 8, 9, 10, 11, 12]. part: Align whole. -/
import Derived.Test.YtdgfadabaejkhaaGreatDoorkXC
namespace Go.Proofs.YtdgfadabaejkhaaGreatDoor
set_option linter.unusedVariables false
set_option linter.unusedSimpArgs false
open Go.RowKit
open Go.ChangeShapes Go.WideShapes Go.Deep Go.RowKit

end Go.Proofs.YtdgfadabaejkhaaGreatDoor
