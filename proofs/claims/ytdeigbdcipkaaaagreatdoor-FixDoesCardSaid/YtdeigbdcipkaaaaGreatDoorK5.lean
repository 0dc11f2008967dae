/- The answer of find, as a plain function. -/
import Derived.Test.YtdeigbdcipkaaaaGreatDoorK3
namespace Go.Proofs.YtdeigbdcipkaaaaGreatDoor
set_option linter.unusedVariables false
set_option linter.unusedSimpArgs false
open Go.RowKit

abbrev Tab (w : World) : Prop := TabAt 4 Lib.deBruijn64tab w ∧ 4 < w.heap.size
theorem Tab.below {w w' : World} {B : Nat} (h : Tab w) (hb : Below B w w') (hB : 4 < B) : Tab w' :=
  ⟨fun j hj => by rw [hb.cell (p := ⟨4, j, none⟩) hB]; exact h.1 j hj, Nat.lt_of_lt_of_le h.2 hb.size⟩
abbrev shapeV (p : Int × Int × Int) : Value := .agg #[.int .i64 p.1, .int .i64 p.2.1, .int .i64 p.2.2]
def partL (v : Nat) : Nat := v % 2 ^ sizeL v
def findS (v : Nat) : Int × Int × Int :=
  if pcN (partL v) 64 = 0 ∨ pcN (partL v) 64 = sizeL v then (0, 0, 0)
  else if maskN (pcN (partL v) 64) (turnS (partL v) (sizeL v)).toNat (sizeL v) = v then (sizeL v, turnS (partL v) (sizeL v), pcN (partL v) 64) else (0, 0, 0)
end Go.Proofs.YtdeigbdcipkaaaaGreatDoor
