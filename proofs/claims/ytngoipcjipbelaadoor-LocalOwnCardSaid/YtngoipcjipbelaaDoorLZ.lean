/- The two tables of unicode/utf8, as a row lists them. -/
import Derived.Test.YtngoipcjipbelaaDoorLJ
import Derived.Lib.LaidU8T
namespace Go.Proofs.YtngoipcjipbelaaDoor
set_option linter.unusedVariables false
set_option linter.unusedSimpArgs false

theorem tab_of {w : World} (h4 : Lib.VarReads Tryd.prog w "unicode/utf8.acceptRanges" Lib.acceptData) (h3 : Lib.VarReads Tryd.prog w "unicode/utf8.first" Lib.firstData) : Tab w :=
  utf8Tabs_of_readsT (U8Types.of196 Tryd.laysValid) ⟨by kernel_rfl, by kernel_rfl, by kernel_rfl, by kernel_rfl, by kernel_rfl, by kernel_rfl, by kernel_rfl⟩ h3 h4
end Go.Proofs.YtngoipcjipbelaaDoor
