/- The reference's Shape, whole. -/
import Derived.Test.YtjnmkelppjcofaaDoorI12
namespace Go.Proofs.YtjnmkelppjcofaaDoor
set_option linter.unusedVariables false
set_option linter.unusedSimpArgs false
open Go.RowKit

theorem RShape_any (op : Int) (w : World) : Calls Tryd.prog 20 #[.int .i64 op] w (RetB (.int .i64 (shapeI op)) w) := by
  by_cases c : op < 1 ∨ 39 < op
  · have e : shapeI op = 0 := by unfold shapeI; rw [if_pos c]
    rw [e]
    exact RShape_out op w c
  · obtain ⟨k, rfl⟩ := Int.eq_ofNat_of_zero_le (show 0 ≤ op by omega)
    have e : shapeI (k : Int) = shL.getD k 0 := by unfold shapeI; rw [if_neg c]; rfl
    rw [e]
    exact RShape_in k w (by omega) (by omega)
end Go.Proofs.YtjnmkelppjcofaaDoor
