/- The three tables that the rows of layer 4 list. -/
import Derived.Test.YtjnmkelppjcofaaDoorI8
import Derived.Test.YtjnmkelppjcofaaDoorIS
import Derived.Lib.LaidTab
namespace Go.Proofs.YtjnmkelppjcofaaDoor
set_option linter.unusedVariables false
set_option linter.unusedSimpArgs false
open Go.RowKit

theorem i64 : Tryd.prog.globalNamed "math/bits.deBruijn64tab" = some 2 := by kernel_rfl
theorem iSh : Tryd.prog.globalNamed "cleat/inst.shapes" = some 1 := by kernel_rfl
theorem iNm : Tryd.prog.globalNamed "cleat/inst.names" = some 0 := by kernel_rfl
theorem itab64 : ∀ j, j < 64 → ([0, 1, 56, 2, 57, 49, 28, 3, 61, 58, 42, 50, 38, 29, 17, 4, 62, 47, 59, 36, 45, 43, 51, 22, 53, 39, 33, 30, 24, 18, 12, 5, 63, 55, 48, 27, 60, 41, 37, 16, 46, 35, 44, 21, 52, 32, 23, 11, 54, 26, 40, 15, 34, 20, 31, 10, 25, 14, 19, 9, 13, 8, 7, 6] : List Int).getD j 0 = ((Lib.deBruijn64tab.getD j 0 : Nat) : Int) := by decide +kernel
theorem tabs_of {w : World} (h64 : Lib.TabIs Tryd.prog w "math/bits.deBruijn64tab" .u8 [0, 1, 56, 2, 57, 49, 28, 3, 61, 58, 42, 50, 38, 29, 17, 4, 62, 47, 59, 36, 45, 43, 51, 22, 53, 39, 33, 30, 24, 18, 12, 5, 63, 55, 48, 27, 60, 41, 37, 16, 46, 35, 44, 21, 52, 32, 23, 11, 54, 26, 40, 15, 34, 20, 31, 10, 25, 14, 19, 9, 13, 8, 7, 6])
    (hs : Lib.TabIs Tryd.prog w "cleat/inst.shapes" .i64 shL) (hn : StrIs Tryd.prog w "cleat/inst.names" nmL) : Tab5 w := by
  refine ⟨⟨⟨fun j hj => ?_, cell_lt (h64.cell i64 0 (by decide))⟩, fun j hj => hs.cell iSh j hj, cell_lt (hs.cell iSh 0 (by decide))⟩, fun j hj => hn.cell iNm j hj, cell_lt (hn.cell iNm 0 (by decide))⟩
  have hj' : j < 64 := hj
  rw [h64.cell i64 j hj', itab64 j hj']
end Go.Proofs.YtjnmkelppjcofaaDoor
