/- The reference's Shape. -/
import Derived.Test.YtfhpcjeefdkacaaDoorC15
namespace Go.Proofs.YtfhpcjeefdkacaaDoor
set_option linter.unusedVariables false
set_option linter.unusedSimpArgs false
open Go.RowKit

theorem retB_int {k : IntKind} {a b : Int} {w w' : World} (h : a = b) (hb : Below w.heap.size w w') : RetB (.int k b) w (.returned (.int k a)) w' := ⟨by rw [h], hb⟩
set_option maxRecDepth 100000 in
set_option maxHeartbeats 4000000 in
theorem RShape_out (op : Int) (w : World) (h : op < 1 ∨ 39 < op) : Calls Tryd.prog 20 #[.int .i64 op] w (RetB (.int .i64 0) w) := by
  rcases h with h | h
  · go_enter Tryd.func20, Tryd.ntmps20
    go_wp2
    go_ret
    exact retB_int rfl ((Below.refl _ _).alloc (Nat.le_refl _) _)
  · have h1 : 1 ≤ op := by omega
    go_enter Tryd.func20, Tryd.ntmps20
    go_wp2
    go_ret
    exact retB_int rfl ((Below.refl _ _).alloc (Nat.le_refl _) _)

theorem shArr (k : Nat) (hk : k < 40) : (#[Value.int .i64 0, .int .i64 1, .int .i64 1, .int .i64 1, .int .i64 2, .int .i64 2, .int .i64 2, .int .i64 2, .int .i64 3, .int .i64 3, .int .i64 3, .int .i64 3, .int .i64 4, .int .i64 4, .int .i64 4, .int .i64 4, .int .i64 5, .int .i64 5, .int .i64 5, .int .i64 5, .int .i64 6, .int .i64 6, .int .i64 7, .int .i64 7, .int .i64 8, .int .i64 8, .int .i64 9, .int .i64 10, .int .i64 10, .int .i64 11, .int .i64 11, .int .i64 12, .int .i64 9, .int .i64 9, .int .i64 13, .int .i64 13, .int .i64 13, .int .i64 14, .int .i64 15, .int .i64 16] : Array Value)[k]? = some (.int .i64 (shL.getD k 0)) := by
  show (shL.map (Value.int .i64)).toArray[k]? = _
  have hl : k < shL.length := hk
  rw [List.getElem?_toArray, List.getElem?_map, List.getElem?_eq_getElem hl, List.getD_eq_getElem?_getD, List.getElem?_eq_getElem hl]
  rfl
set_option maxRecDepth 100000 in
set_option maxHeartbeats 4000000 in
theorem RShape_in (k : Nat) (w : World) (h1 : 1 ≤ k) (h2 : k ≤ 39) : Calls Tryd.prog 20 #[.int .i64 k] w (RetB (.int .i64 (shL.getD k 0)) w) := by
  have hA := shArr k (by omega)
  generalize shL.getD k 0 = v at *
  go_enter Tryd.func20, Tryd.ntmps20
  go_wp2
  go_ret
  exact retB_int rfl ((Below.refl _ _).alloc (Nat.le_refl _) _)

theorem RShape_any (op : Int) (w : World) : Calls Tryd.prog 20 #[.int .i64 op] w (RetB (.int .i64 (shapeI op)) w) := by
  by_cases c : op < 1 ∨ 39 < op
  · have e : shapeI op = 0 := by unfold shapeI; rw [if_pos c]
    rw [e]
    exact RShape_out op w c
  · obtain ⟨k, rfl⟩ := Int.eq_ofNat_of_zero_le (show 0 ≤ op by omega)
    have e : shapeI (k : Int) = shL.getD k 0 := by unfold shapeI; rw [if_neg c]; rfl
    rw [e]
    exact RShape_in k w (by omega) (by omega)
end Go.Proofs.YtfhpcjeefdkacaaDoor
