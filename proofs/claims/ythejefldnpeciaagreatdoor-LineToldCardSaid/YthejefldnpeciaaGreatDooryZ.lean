/- The tables that the rows of layer 12 list. A last text: it imports LaidU8T. -/
import Derived.Test.YthejefldnpeciaaGreatDooryC
import Derived.Test.YthejefldnpeciaaGreatDooryY
import Derived.Test.YthejefldnpeciaaGreatDoorIS
import Derived.Lib.LaidU8T
namespace Go.Proofs.YthejefldnpeciaaGreatDoor
set_option linter.unusedVariables false
set_option linter.unusedSimpArgs false
open Go.RowKit

theorem rtab_of {w : World} (h4 : Lib.VarReads Tryz.prog w "unicode/utf8.acceptRanges" Lib.acceptData) (h3 : Lib.VarReads Tryz.prog w "unicode/utf8.first" Lib.firstData) : RTab w :=
  utf8Tabs_of_readsT (U8Types.of196 Tryz.laysValid) ⟨by kernel_rfl, by kernel_rfl, by kernel_rfl, by kernel_rfl, by kernel_rfl, by kernel_rfl, by kernel_rfl⟩ h3 h4
theorem i64 : Tryz.prog.globalNamed "math/bits.deBruijn64tab" = some 6 := by kernel_rfl
theorem iSh : Tryz.prog.globalNamed "cleat/inst.shapes" = some 1 := by kernel_rfl
theorem iNm : Tryz.prog.globalNamed "cleat/inst.names" = some 0 := by kernel_rfl
theorem iCd : Tryz.prog.globalNamed "cleat/line.conds" = some 2 := by kernel_rfl
theorem oSh : Tryz.prog.globalNamed "cleat/operand.shiftNames" = some 5 := by kernel_rfl
theorem tab10' : ([1, 10, 100, 1000, 10000, 100000, 1000000, 10000000, 100000000, 1000000000, 10000000000, 100000000000, 1000000000000, 10000000000000, 100000000000000, 1000000000000000, 10000000000000000, 100000000000000000, 1000000000000000000, 10000000000000000000] : List Int) = Lib.pow10Tab := by decide +kernel
theorem itab64 : ∀ j, j < 64 → ([0, 1, 56, 2, 57, 49, 28, 3, 61, 58, 42, 50, 38, 29, 17, 4, 62, 47, 59, 36, 45, 43, 51, 22, 53, 39, 33, 30, 24, 18, 12, 5, 63, 55, 48, 27, 60, 41, 37, 16, 46, 35, 44, 21, 52, 32, 23, 11, 54, 26, 40, 15, 34, 20, 31, 10, 25, 14, 19, 9, 13, 8, 7, 6] : List Int).getD j 0 = ((Lib.deBruijn64tab.getD j 0 : Nat) : Int) := by decide +kernel
theorem tabL_of {w : World} {y : List Int} (h32 : Lib.TabIs Tryz.prog w "math/bits.deBruijn32tab" .u8 y) (h64 : Lib.TabIs Tryz.prog w "math/bits.deBruijn64tab" .u8 [0, 1, 56, 2, 57, 49, 28, 3, 61, 58, 42, 50, 38, 29, 17, 4, 62, 47, 59, 36, 45, 43, 51, 22, 53, 39, 33, 30, 24, 18, 12, 5, 63, 55, 48, 27, 60, 41, 37, 16, 46, 35, 44, 21, 52, 32, 23, 11, 54, 26, 40, 15, 34, 20, 31, 10, 25, 14, 19, 9, 13, 8, 7, 6])
    (hs : Lib.TabIs Tryz.prog w "cleat/inst.shapes" .i64 shL) (hp : Lib.TabIs Tryz.prog w "internal/strconv.uint64pow10" .u64 [1, 10, 100, 1000, 10000, 100000, 1000000, 10000000, 100000000, 1000000000, 10000000000, 100000000000, 1000000000000, 10000000000000, 100000000000000, 1000000000000000, 10000000000000000, 100000000000000000, 1000000000000000000, 10000000000000000000])
    (h4 : Lib.VarReads Tryz.prog w "unicode/utf8.acceptRanges" Lib.acceptData) (hn : StrIs Tryz.prog w "cleat/operand.shiftNames" [[108, 115, 108], [108, 115, 114], [97, 115, 114], [114, 111, 114]])
    (hc : StrIs Tryz.prog w "cleat/line.conds" [[101, 113], [110, 101], [104, 115], [108, 111], [109, 105], [112, 108], [118, 115], [118, 99], [104, 105], [108, 115], [103, 101], [108, 116], [103, 116], [108, 101]]) (h3 : Lib.VarReads Tryz.prog w "unicode/utf8.first" Lib.firstData) : TabL w := by
  refine ⟨⟨⟨fun j hj => ?_, cell_lt (h64.cell i64 0 (by decide))⟩, fun j hj => hs.cell iSh j hj, cell_lt (hs.cell iSh 0 (by decide))⟩, ⟨rtab_of h4 h3, by rw [tab10'] at hp; exact hp, fun j hj => ?_⟩, fun j hj => ?_, cell_lt (hc.cell iCd 0 (by decide))⟩
  · have hj' : j < 64 := hj
    rw [h64.cell i64 j hj', itab64 j hj']
  · rw [hn.cell oSh j (by simpa using hj)]
    match j, hj with
    | 0, _ => rfl
    | 1, _ => rfl
    | 2, _ => rfl
    | 3, _ => rfl
  · rw [hc.cell iCd j (by simpa using hj)]
    rcases k14 hj with rfl | rfl | rfl | rfl | rfl | rfl | rfl | rfl | rfl | rfl | rfl | rfl | rfl | rfl <;> rfl
theorem tabN_of {w : World} {y : List Int} (h32 : Lib.TabIs Tryz.prog w "math/bits.deBruijn32tab" .u8 y) (h64 : Lib.TabIs Tryz.prog w "math/bits.deBruijn64tab" .u8 [0, 1, 56, 2, 57, 49, 28, 3, 61, 58, 42, 50, 38, 29, 17, 4, 62, 47, 59, 36, 45, 43, 51, 22, 53, 39, 33, 30, 24, 18, 12, 5, 63, 55, 48, 27, 60, 41, 37, 16, 46, 35, 44, 21, 52, 32, 23, 11, 54, 26, 40, 15, 34, 20, 31, 10, 25, 14, 19, 9, 13, 8, 7, 6])
    (hs : Lib.TabIs Tryz.prog w "cleat/inst.shapes" .i64 shL) (hm : StrIs Tryz.prog w "cleat/inst.names" nmL) (hp : Lib.TabIs Tryz.prog w "internal/strconv.uint64pow10" .u64 [1, 10, 100, 1000, 10000, 100000, 1000000, 10000000, 100000000, 1000000000, 10000000000, 100000000000, 1000000000000, 10000000000000, 100000000000000, 1000000000000000, 10000000000000000, 100000000000000000, 1000000000000000000, 10000000000000000000])
    (h4 : Lib.VarReads Tryz.prog w "unicode/utf8.acceptRanges" Lib.acceptData) (hn : StrIs Tryz.prog w "cleat/operand.shiftNames" [[108, 115, 108], [108, 115, 114], [97, 115, 114], [114, 111, 114]])
    (hc : StrIs Tryz.prog w "cleat/line.conds" [[101, 113], [110, 101], [104, 115], [108, 111], [109, 105], [112, 108], [118, 115], [118, 99], [104, 105], [108, 115], [103, 101], [108, 116], [103, 116], [108, 101]]) (h3 : Lib.VarReads Tryz.prog w "unicode/utf8.first" Lib.firstData) : TabM w :=
  ⟨tabL_of h32 h64 hs hp h4 hn hc h3, fun j hj => hm.cell iNm j hj, cell_lt (hm.cell iNm 0 (by decide))⟩
end Go.Proofs.YthejefldnpeciaaGreatDoor
