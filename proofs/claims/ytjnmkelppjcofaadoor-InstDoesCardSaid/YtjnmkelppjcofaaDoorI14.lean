/- The reference's names. -/
import Derived.Test.YtjnmkelppjcofaaDoorI13
namespace Go.Proofs.YtjnmkelppjcofaaDoor
set_option linter.unusedVariables false
set_option linter.unusedSimpArgs false
open Go.RowKit

set_option maxRecDepth 100000 in
set_option maxHeartbeats 4000000 in
theorem Rnames_any (w : World) : Calls Tryd.prog 42 #[] w (fun e w' => e = .returned (.slice (some ⟨w.heap.size, 0, none⟩) 40 40) ∧ Below w.heap.size w w' ∧ w.heap.size < w'.heap.size ∧ ∀ j, j < 40 → w'.cell? ⟨w.heap.size, j, none⟩ = some (.string (nmB j))) := by
  go_enter Tryd.func42, Tryd.ntmps42
  go_wp2
  go_ret
  refine ⟨rfl, (Below.refl _ _).alloc (Nat.le_refl _) _, by simp, fun j hj => ?_⟩
  have hl : j < nmL.length := hj
  have e : (nmL.map fun z => Value.string ⟨z.toArray⟩).toArray[j]? = some (.string (nmB j)) := by
    rw [List.getElem?_toArray, List.getElem?_map, List.getElem?_eq_getElem hl]
    unfold nmB
    rw [List.getD_eq_getElem?_getD, List.getElem?_eq_getElem hl]
    rfl
  rw [← e]
  unfold World.cell?
  rw [(MapKept.heap_alloc w _).1]
  rfl
end Go.Proofs.YtjnmkelppjcofaaDoor
