/- The row's five tables. -/
import Derived.Test.YtdeigbdcipkaaaaDoorH6
namespace Go.Proofs.YtdeigbdcipkaaaaDoor
set_option linter.unusedVariables false
set_option linter.unusedSimpArgs false
open Go.RowKit
theorem tabs7_of {w : World} (h64 : Lib.TabIs Tryd.prog w "math/bits.deBruijn64tab" .u8 [0, 1, 56, 2, 57, 49, 28, 3, 61, 58, 42, 50, 38, 29, 17, 4, 62, 47, 59, 36, 45, 43, 51, 22, 53, 39, 33, 30, 24, 18, 12, 5, 63, 55, 48, 27, 60, 41, 37, 16, 46, 35, 44, 21, 52, 32, 23, 11, 54, 26, 40, 15, 34, 20, 31, 10, 25, 14, 19, 9, 13, 8, 7, 6])
    (hs : Lib.TabIs Tryd.prog w "cleat/inst.shapes" .i64 shL) (hb : Lib.TabIs Tryd.prog w "cleat/code.bases" .u32 baI) (hl : Lib.TabIs Tryd.prog w "cleat/code.loose" .u32 loI) (hf : RowsIs Tryd.prog w "cleat/part.fitting" .i64 fitT) : Tab7 w := tab7_of (tabs_of h64 hs hb hl) hf
end Go.Proofs.YtdeigbdcipkaaaaDoor
