/- The reference's Shape. -/
import Derived.Test.YtjnmkelppjcofaaDoorI10
namespace Go.Proofs.YtjnmkelppjcofaaDoor
set_option linter.unusedVariables false
set_option linter.unusedSimpArgs false
open Go.RowKit

theorem retB_int {k : IntKind} {a b : Int} {w w' : World} (h : a = b) (hb : Below w.heap.size w w') : RetB (.int k b) w (.returned (.int k a)) w' := ⟨by rw [h], hb⟩
set_option maxRecDepth 100000 in
set_option maxHeartbeats 4000000 in
theorem RShape_out (op : Int) (w : World) (h : op < 1 ∨ 39 < op) : Calls Tryd.prog 20 #[.int .i64 op] w (RetB (.int .i64 0) w) := by
  rcases h with h | h
  · go_enter Tryd.func20, Tryd.ntmps20
    go_wp2
    go_ret
    exact retB_int rfl ((Below.refl _ _).alloc (Nat.le_refl _) _)
  · have h1 : 1 ≤ op := by omega
    go_enter Tryd.func20, Tryd.ntmps20
    go_wp2
    go_ret
    exact retB_int rfl ((Below.refl _ _).alloc (Nat.le_refl _) _)
end Go.Proofs.YtjnmkelppjcofaaDoor
