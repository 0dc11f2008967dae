/- which operations fit a kind. -/
import Derived.Test.YtdgfadabaejkhaaGreatDoorkCW
namespace Go.Proofs.YtdgfadabaejkhaaGreatDoor
set_option linter.unusedVariables false
set_option linter.unusedSimpArgs false
open Go.ChangeShapes Go.WideShapes Go.Deep Go.RowKit
/-- The operations that fit each kind. -/
def fitT : List (List Int) := [[0, 0, 0], [0, 0, 0], [29, 30, 0], [31, 32, 33], [26, 0, 0], [27, 0, 0], [28, 0, 0], [4, 0, 0], [22, 23, 0], [24, 25, 0]]
def fitK (kind : Int) : List Int := if kind < 0 ∨ 9 < kind then [] else fitT.getD kind.toNat []
/-- Does an instruction fit a kind? -/
def fitsI (kind : Int) (i : In) : Bool := isI i && i.imm == 0 && i.amount == 0 && (fitK kind).any (· == i.op)
end Go.Proofs.YtdgfadabaejkhaaGreatDoor
