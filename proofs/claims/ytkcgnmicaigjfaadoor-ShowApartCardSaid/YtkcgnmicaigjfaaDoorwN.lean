/- The tables that the rows of layer 13 list. A last text. -/
import Derived.Test.YtkcgnmicaigjfaaDoorwD
import Derived.Test.YtkcgnmicaigjfaaDoorIS
import Derived.Lib.LaidU8T
namespace Go.Proofs.YtkcgnmicaigjfaaDoor
set_option linter.unusedVariables false
set_option linter.unusedSimpArgs false
open Go.RowKit

theorem sNm : Tryd.prog.globalNamed "cleat/inst.names" = some 0 := by kernel_rfl
theorem sCd : Tryd.prog.globalNamed "cleat/line.conds" = some 2 := by kernel_rfl
theorem sSh : Tryd.prog.globalNamed "cleat/show.shiftNames" = some 3 := by kernel_rfl
theorem stab10 : ([1, 10, 100, 1000, 10000, 100000, 1000000, 10000000, 100000000, 1000000000, 10000000000, 100000000000, 1000000000000, 10000000000000, 100000000000000, 1000000000000000, 10000000000000000, 100000000000000000, 1000000000000000000, 10000000000000000000] : List Int) = Lib.pow10Tab := by decide +kernel
theorem tabS_of {w : World} {y : List Int} (h32 : Lib.TabIs Tryd.prog w "math/bits.deBruijn32tab" .u8 y) (h64 : Lib.TabIs Tryd.prog w "math/bits.deBruijn64tab" .u8 [0, 1, 56, 2, 57, 49, 28, 3, 61, 58, 42, 50, 38, 29, 17, 4, 62, 47, 59, 36, 45, 43, 51, 22, 53, 39, 33, 30, 24, 18, 12, 5, 63, 55, 48, 27, 60, 41, 37, 16, 46, 35, 44, 21, 52, 32, 23, 11, 54, 26, 40, 15, 34, 20, 31, 10, 25, 14, 19, 9, 13, 8, 7, 6])
    (hs : Lib.TabIs Tryd.prog w "cleat/inst.shapes" .i64 shL) (hm : StrIs Tryd.prog w "cleat/inst.names" nmL) (hb : Lib.TabIs Tryd.prog w "cleat/code.bases" .u32 baI) (hl : Lib.TabIs Tryd.prog w "cleat/code.loose" .u32 loI)
    (hp : Lib.TabIs Tryd.prog w "internal/strconv.uint64pow10" .u64 [1, 10, 100, 1000, 10000, 100000, 1000000, 10000000, 100000000, 1000000000, 10000000000, 100000000000, 1000000000000, 10000000000000, 100000000000000, 1000000000000000, 10000000000000000, 100000000000000000, 1000000000000000000, 10000000000000000000])
    (hc : StrIs Tryd.prog w "cleat/line.conds" [[101, 113], [110, 101], [104, 115], [108, 111], [109, 105], [112, 108], [118, 115], [118, 99], [104, 105], [108, 115], [103, 101], [108, 116], [103, 116], [108, 101]])
    (hn : StrIs Tryd.prog w "cleat/show.shiftNames" [[108, 115, 108], [108, 115, 114], [97, 115, 114], [114, 111, 114]]) : TabS w := by
  refine ⟨tabs_of h64 hs hb hl, ⟨fun j hj => hm.cell sNm j hj, cell_lt (hm.cell sNm 0 (by decide))⟩, ⟨fun j hj => ?_, cell_lt (hc.cell sCd 0 (by decide))⟩, ⟨fun j hj => ?_, cell_lt (hn.cell sSh 0 (by decide))⟩, by rw [stab10] at hp; exact hp⟩
  · rw [hc.cell sCd j (by simpa using hj)]
    rcases k14 hj with rfl | rfl | rfl | rfl | rfl | rfl | rfl | rfl | rfl | rfl | rfl | rfl | rfl | rfl <;> rfl
  · rw [hn.cell sSh j (by simpa using hj)]
    match j, hj with
    | 0, _ => rfl
    | 1, _ => rfl
    | 2, _ => rfl
    | 3, _ => rfl
end Go.Proofs.YtkcgnmicaigjfaaDoor
