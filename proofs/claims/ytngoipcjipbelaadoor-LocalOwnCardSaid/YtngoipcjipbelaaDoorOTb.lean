/- The six tables that the rows of layers 11 and 14 list. A last text: it imports LaidU8T. -/
import Derived.Test.YtngoipcjipbelaaDoorOB
import Derived.Test.YtngoipcjipbelaaDoorIS
import Derived.Test.YtngoipcjipbelaaDoorLZ
namespace Go.Proofs.YtngoipcjipbelaaDoor
set_option linter.unusedVariables false
set_option linter.unusedSimpArgs false
open Go.RowKit

theorem oSh : Tryd.prog.globalNamed "cleat/operand.shiftNames" = some 2 := by kernel_rfl
theorem tab10' : ([1, 10, 100, 1000, 10000, 100000, 1000000, 10000000, 100000000, 1000000000, 10000000000, 100000000000, 1000000000000, 10000000000000, 100000000000000, 1000000000000000, 10000000000000000, 100000000000000000, 1000000000000000000, 10000000000000000000] : List Int) = Lib.pow10Tab := by decide +kernel
theorem tabO_of {w : World} {y z : List Int} (h32 : Lib.TabIs Tryd.prog w "math/bits.deBruijn32tab" .u8 y) (h64 : Lib.TabIs Tryd.prog w "math/bits.deBruijn64tab" .u8 z)
    (hp : Lib.TabIs Tryd.prog w "internal/strconv.uint64pow10" .u64 [1, 10, 100, 1000, 10000, 100000, 1000000, 10000000, 100000000, 1000000000, 10000000000, 100000000000, 1000000000000, 10000000000000, 100000000000000, 1000000000000000, 10000000000000000, 100000000000000000, 1000000000000000000, 10000000000000000000])
    (h4 : Lib.VarReads Tryd.prog w "unicode/utf8.acceptRanges" Lib.acceptData) (hs : StrIs Tryd.prog w "cleat/operand.shiftNames" [[108, 115, 108], [108, 115, 114], [97, 115, 114], [114, 111, 114]]) (h3 : Lib.VarReads Tryd.prog w "unicode/utf8.first" Lib.firstData) : TabO w := by
  refine ⟨tab_of h4 h3, by rw [tab10'] at hp; exact hp, fun j hj => ?_⟩
  rw [hs.cell oSh j (by simpa using hj)]
  match j, hj with
  | 0, _ => rfl
  | 1, _ => rfl
  | 2, _ => rfl
  | 3, _ => rfl
end Go.Proofs.YtngoipcjipbelaaDoor
