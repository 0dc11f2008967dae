/-
  NARROWER THAN 'FOR EVERY INPUT', by the rows' own cells (each row's printed sentence says how): LexBack: laid · LexJoins: laid · LexComment: laid · LexWord: laid · OperandNames: laid · OperandRegs: laid · OperandJoins: laid · LocalSplits: laid · LocalNear: laid · LocalOwn: laid · LocalText: laid.
  DERIVED. THE GIVEN ROWS OF THIS SEAT. 11 by the template 'for every input the law returns true; each argument reads behind the call as it read before'; 0 by the template 'total and deterministic' (their statements: YtngoipcjipbelaaDoorTotals.lean).
  GIVEN WITH THE SEED: the statements are not yours to turn. If you find one false, say at which input.
  Laid BY PROGRAM, IN A SANDBOX (cutbox-rows.mjs): the forced cells as the released guide's own fill.sh prints them over the translation 74a338dcc6a69062… (all of the seat's roots in one cut). By AI agents, Wed Nov 11 2026. No macro, syntax, notation, axiom, sorry.
-/
import Derived.Test.YtngoipcjipbelaaDoorChecked
import GoSem.PinnedTables
import GoSem.Claim
import GoSem.ClaimJoined
import GoSem.ClaimMapViews
import Derived.JoinedTies
import Derived.KernelRfl
namespace Go.Proofs.YtngoipcjipbelaaDoor
/- THE CELL 'sum', in the pinned program and in every row, IS THE sha256 OF THE DUMP (.gsa) THAT YtngoipcjipbelaaDoorProg.lean LOADS. Nothing in Lean hashes anything: it is a label: what it is worth is what the hold of that sum in a sandbox is worth. -/
noncomputable def Tryd.pinned : Pinned := { name := "ytngoipcjipbelaadoor", sum := "74a338dcc6a69062dcce7bf46d1e60c5b8d2df46cd58568f9cf06973a7c5aee6", checked := Tryd.checked }
namespace Rows
def none {H : Type} : Left H := { results := [], args := [] }

/- WHAT THE LISTED PACKAGE-LEVEL VARIABLES READ AS WHEN THE CALL BEGINS. Each datum BY PROGRAM (the guide's laid-datum.mjs) off the statement by which the dump's own 'gosem.cut.vars' lays the variable. In a bare row this is a premise. The card (YtngoipcjipbelaaDoorCards.lean) ties it to the program's text. -/
def laid_unicode_utf8_acceptRanges {H : Type} : DataW H := .agg [.agg [.lit (.int .u8 128), .lit (.int .u8 191)], .agg [.lit (.int .u8 160), .lit (.int .u8 191)], .agg [.lit (.int .u8 128), .lit (.int .u8 159)], .agg [.lit (.int .u8 144), .lit (.int .u8 191)], .agg [.lit (.int .u8 128), .lit (.int .u8 143)], .agg [.lit (.int .u8 0), .lit (.int .u8 0)], .agg [.lit (.int .u8 0), .lit (.int .u8 0)], .agg [.lit (.int .u8 0), .lit (.int .u8 0)], .agg [.lit (.int .u8 0), .lit (.int .u8 0)], .agg [.lit (.int .u8 0), .lit (.int .u8 0)], .agg [.lit (.int .u8 0), .lit (.int .u8 0)], .agg [.lit (.int .u8 0), .lit (.int .u8 0)], .agg [.lit (.int .u8 0), .lit (.int .u8 0)], .agg [.lit (.int .u8 0), .lit (.int .u8 0)], .agg [.lit (.int .u8 0), .lit (.int .u8 0)], .agg [.lit (.int .u8 0), .lit (.int .u8 0)]]
/-- One of Go's own tables, pinned by name: the form's constant. -/
def laid_unicode_utf8_first : DataW Unit := Go.Pinned.utf8First
def laid_math_bits_deBruijn32tab {H : Type} : DataW H := .agg [.lit (.int .u8 0), .lit (.int .u8 1), .lit (.int .u8 28), .lit (.int .u8 2), .lit (.int .u8 29), .lit (.int .u8 14), .lit (.int .u8 24), .lit (.int .u8 3), .lit (.int .u8 30), .lit (.int .u8 22), .lit (.int .u8 20), .lit (.int .u8 15), .lit (.int .u8 25), .lit (.int .u8 17), .lit (.int .u8 4), .lit (.int .u8 8), .lit (.int .u8 31), .lit (.int .u8 27), .lit (.int .u8 13), .lit (.int .u8 23), .lit (.int .u8 21), .lit (.int .u8 19), .lit (.int .u8 16), .lit (.int .u8 7), .lit (.int .u8 26), .lit (.int .u8 12), .lit (.int .u8 18), .lit (.int .u8 6), .lit (.int .u8 11), .lit (.int .u8 5), .lit (.int .u8 10), .lit (.int .u8 9)]
def laid_math_bits_deBruijn64tab {H : Type} : DataW H := .agg [.lit (.int .u8 0), .lit (.int .u8 1), .lit (.int .u8 56), .lit (.int .u8 2), .lit (.int .u8 57), .lit (.int .u8 49), .lit (.int .u8 28), .lit (.int .u8 3), .lit (.int .u8 61), .lit (.int .u8 58), .lit (.int .u8 42), .lit (.int .u8 50), .lit (.int .u8 38), .lit (.int .u8 29), .lit (.int .u8 17), .lit (.int .u8 4), .lit (.int .u8 62), .lit (.int .u8 47), .lit (.int .u8 59), .lit (.int .u8 36), .lit (.int .u8 45), .lit (.int .u8 43), .lit (.int .u8 51), .lit (.int .u8 22), .lit (.int .u8 53), .lit (.int .u8 39), .lit (.int .u8 33), .lit (.int .u8 30), .lit (.int .u8 24), .lit (.int .u8 18), .lit (.int .u8 12), .lit (.int .u8 5), .lit (.int .u8 63), .lit (.int .u8 55), .lit (.int .u8 48), .lit (.int .u8 27), .lit (.int .u8 60), .lit (.int .u8 41), .lit (.int .u8 37), .lit (.int .u8 16), .lit (.int .u8 46), .lit (.int .u8 35), .lit (.int .u8 44), .lit (.int .u8 21), .lit (.int .u8 52), .lit (.int .u8 32), .lit (.int .u8 23), .lit (.int .u8 11), .lit (.int .u8 54), .lit (.int .u8 26), .lit (.int .u8 40), .lit (.int .u8 15), .lit (.int .u8 34), .lit (.int .u8 20), .lit (.int .u8 31), .lit (.int .u8 10), .lit (.int .u8 25), .lit (.int .u8 14), .lit (.int .u8 19), .lit (.int .u8 9), .lit (.int .u8 13), .lit (.int .u8 8), .lit (.int .u8 7), .lit (.int .u8 6)]
def laid_internal_strconv_uint64pow10 {H : Type} : DataW H := .agg [.lit (.int .u64 1), .lit (.int .u64 10), .lit (.int .u64 100), .lit (.int .u64 1000), .lit (.int .u64 10000), .lit (.int .u64 100000), .lit (.int .u64 1000000), .lit (.int .u64 10000000), .lit (.int .u64 100000000), .lit (.int .u64 1000000000), .lit (.int .u64 10000000000), .lit (.int .u64 100000000000), .lit (.int .u64 1000000000000), .lit (.int .u64 10000000000000), .lit (.int .u64 100000000000000), .lit (.int .u64 1000000000000000), .lit (.int .u64 10000000000000000), .lit (.int .u64 100000000000000000), .lit (.int .u64 1000000000000000000), .lit (.int .u64 10000000000000000000)]
def laid_cleat_operand_shiftNames {H : Type} : DataW H := .agg [.lit (.string [108, 115, 108]), .lit (.string [108, 115, 114]), .lit (.string [97, 115, 114]), .lit (.string [114, 111, 114])]

/-- 'cleatlaw09.LexBack': WHATEVER THE INPUT: true; the input reads as it did. -/
def lexBackSpec : ChangeSpec := { name := "lexBack", fn := fun _ => fun
  | [d1, d2] => { results := [.lit (.bool true)], args := [d1, d2] }
  | _ => none }
def lexBackRow : OpenClaim := { program := "ytngoipcjipbelaadoor", sum := "74a338dcc6a69062dcce7bf46d1e60c5b8d2df46cd58568f9cf06973a7c5aee6", func := "cleat/cleatlaw09.LexBack", spec := "lexBack", inPlace := ["internal/abi.NoEscape", "internal/bytealg.IndexByteString"], named := ["unicode/utf8.first", "unicode/utf8.acceptRanges"], apart := false, laid := [("unicode/utf8.acceptRanges", laid_unicode_utf8_acceptRanges), ("unicode/utf8.first", laid_unicode_utf8_first)] }
def LexBackSaid : Prop := lexBackRow.holds Tryd.pinned (OpenSpec.ofChange lexBackSpec)

/-- ITS FALSE NEIGHBOUR: 'it returns false'. Refute it at one input. -/
def lexBackWrong : ChangeSpec := { name := "lexBack", fn := fun _ => fun
  | [d1, d2] => { results := [.lit (.bool false)], args := [d1, d2] }
  | _ => none }
def LexBackWrongFalsely : Prop := lexBackRow.holds Tryd.pinned (OpenSpec.ofChange lexBackWrong)

/-- 'cleatlaw09.LexJoins': WHATEVER THE INPUT: true; the input reads as it did. -/
def lexJoinsSpec : ChangeSpec := { name := "lexJoins", fn := fun _ => fun
  | [d1, d2] => { results := [.lit (.bool true)], args := [d1, d2] }
  | _ => none }
def lexJoinsRow : OpenClaim := { program := "ytngoipcjipbelaadoor", sum := "74a338dcc6a69062dcce7bf46d1e60c5b8d2df46cd58568f9cf06973a7c5aee6", func := "cleat/cleatlaw09.LexJoins", spec := "lexJoins", inPlace := ["internal/abi.NoEscape", "internal/bytealg.IndexByteString"], named := ["unicode/utf8.first", "unicode/utf8.acceptRanges"], apart := false, laid := [("unicode/utf8.acceptRanges", laid_unicode_utf8_acceptRanges), ("unicode/utf8.first", laid_unicode_utf8_first)] }
def LexJoinsSaid : Prop := lexJoinsRow.holds Tryd.pinned (OpenSpec.ofChange lexJoinsSpec)

/-- ITS FALSE NEIGHBOUR: 'it returns false'. Refute it at one input. -/
def lexJoinsWrong : ChangeSpec := { name := "lexJoins", fn := fun _ => fun
  | [d1, d2] => { results := [.lit (.bool false)], args := [d1, d2] }
  | _ => none }
def LexJoinsWrongFalsely : Prop := lexJoinsRow.holds Tryd.pinned (OpenSpec.ofChange lexJoinsWrong)

/-- 'cleatlaw09.LexComment': WHATEVER THE INPUT: true; the input reads as it did. -/
def lexCommentSpec : ChangeSpec := { name := "lexComment", fn := fun _ => fun
  | [d1, d2] => { results := [.lit (.bool true)], args := [d1, d2] }
  | _ => none }
def lexCommentRow : OpenClaim := { program := "ytngoipcjipbelaadoor", sum := "74a338dcc6a69062dcce7bf46d1e60c5b8d2df46cd58568f9cf06973a7c5aee6", func := "cleat/cleatlaw09.LexComment", spec := "lexComment", inPlace := ["internal/abi.NoEscape", "internal/bytealg.IndexByteString"], named := ["unicode/utf8.first", "unicode/utf8.acceptRanges"], apart := false, laid := [("unicode/utf8.acceptRanges", laid_unicode_utf8_acceptRanges), ("unicode/utf8.first", laid_unicode_utf8_first)] }
def LexCommentSaid : Prop := lexCommentRow.holds Tryd.pinned (OpenSpec.ofChange lexCommentSpec)

/-- ITS FALSE NEIGHBOUR: 'it returns false'. Refute it at one input. -/
def lexCommentWrong : ChangeSpec := { name := "lexComment", fn := fun _ => fun
  | [d1, d2] => { results := [.lit (.bool false)], args := [d1, d2] }
  | _ => none }
def LexCommentWrongFalsely : Prop := lexCommentRow.holds Tryd.pinned (OpenSpec.ofChange lexCommentWrong)

/-- 'cleatlaw09.LexWord': WHATEVER THE INPUT: true; the input reads as it did. -/
def lexWordSpec : ChangeSpec := { name := "lexWord", fn := fun _ => fun
  | [d1, d2] => { results := [.lit (.bool true)], args := [d1, d2] }
  | _ => none }
def lexWordRow : OpenClaim := { program := "ytngoipcjipbelaadoor", sum := "74a338dcc6a69062dcce7bf46d1e60c5b8d2df46cd58568f9cf06973a7c5aee6", func := "cleat/cleatlaw09.LexWord", spec := "lexWord", inPlace := ["internal/abi.NoEscape", "internal/bytealg.IndexByteString"], named := ["unicode/utf8.first", "unicode/utf8.acceptRanges"], apart := false, laid := [("unicode/utf8.acceptRanges", laid_unicode_utf8_acceptRanges), ("unicode/utf8.first", laid_unicode_utf8_first)] }
def LexWordSaid : Prop := lexWordRow.holds Tryd.pinned (OpenSpec.ofChange lexWordSpec)

/-- ITS FALSE NEIGHBOUR: 'it returns false'. Refute it at one input. -/
def lexWordWrong : ChangeSpec := { name := "lexWord", fn := fun _ => fun
  | [d1, d2] => { results := [.lit (.bool false)], args := [d1, d2] }
  | _ => none }
def LexWordWrongFalsely : Prop := lexWordRow.holds Tryd.pinned (OpenSpec.ofChange lexWordWrong)

/-- 'cleatlaw11.OperandNames': WHATEVER THE INPUT: true; the input reads as it did. -/
def operandNamesSpec : ChangeSpec := { name := "operandNames", fn := fun _ => fun
  | [d1, d2, d3] => { results := [.lit (.bool true)], args := [d1, d2, d3] }
  | _ => none }
def operandNamesRow : OpenClaim := { program := "ytngoipcjipbelaadoor", sum := "74a338dcc6a69062dcce7bf46d1e60c5b8d2df46cd58568f9cf06973a7c5aee6", func := "cleat/cleatlaw11.OperandNames", spec := "operandNames", inPlace := ["math/bits.Add64", "internal/abi.NoEscape", "internal/bytealg.IndexByteString"], unfollowed := true, recurses := true, named := ["internal/strconv.uint64pow10", "math/bits.deBruijn32tab", "math/bits.deBruijn64tab", "unicode/utf8.first", "unicode/utf8.acceptRanges", "cleat/operand.shiftNames"], apart := false, laid := [("math/bits.deBruijn32tab", laid_math_bits_deBruijn32tab), ("math/bits.deBruijn64tab", laid_math_bits_deBruijn64tab), ("internal/strconv.uint64pow10", laid_internal_strconv_uint64pow10), ("unicode/utf8.acceptRanges", laid_unicode_utf8_acceptRanges), ("cleat/operand.shiftNames", laid_cleat_operand_shiftNames), ("unicode/utf8.first", laid_unicode_utf8_first)] }
def OperandNamesSaid : Prop := operandNamesRow.holds Tryd.pinned (OpenSpec.ofChange operandNamesSpec)

/-- ITS FALSE NEIGHBOUR: 'it returns false'. Refute it at one input. -/
def operandNamesWrong : ChangeSpec := { name := "operandNames", fn := fun _ => fun
  | [d1, d2, d3] => { results := [.lit (.bool false)], args := [d1, d2, d3] }
  | _ => none }
def OperandNamesWrongFalsely : Prop := operandNamesRow.holds Tryd.pinned (OpenSpec.ofChange operandNamesWrong)

/-- 'cleatlaw11.OperandRegs': WHATEVER THE INPUT: true; the input reads as it did. -/
def operandRegsSpec : ChangeSpec := { name := "operandRegs", fn := fun _ => fun
  | [d1, d2, d3] => { results := [.lit (.bool true)], args := [d1, d2, d3] }
  | _ => none }
def operandRegsRow : OpenClaim := { program := "ytngoipcjipbelaadoor", sum := "74a338dcc6a69062dcce7bf46d1e60c5b8d2df46cd58568f9cf06973a7c5aee6", func := "cleat/cleatlaw11.OperandRegs", spec := "operandRegs", inPlace := ["math/bits.Add64", "internal/abi.NoEscape", "internal/bytealg.IndexByteString"], unfollowed := true, recurses := true, named := ["internal/strconv.uint64pow10", "math/bits.deBruijn32tab", "math/bits.deBruijn64tab", "unicode/utf8.first", "unicode/utf8.acceptRanges", "cleat/operand.shiftNames"], apart := false, laid := [("math/bits.deBruijn32tab", laid_math_bits_deBruijn32tab), ("math/bits.deBruijn64tab", laid_math_bits_deBruijn64tab), ("internal/strconv.uint64pow10", laid_internal_strconv_uint64pow10), ("unicode/utf8.acceptRanges", laid_unicode_utf8_acceptRanges), ("cleat/operand.shiftNames", laid_cleat_operand_shiftNames), ("unicode/utf8.first", laid_unicode_utf8_first)] }
def OperandRegsSaid : Prop := operandRegsRow.holds Tryd.pinned (OpenSpec.ofChange operandRegsSpec)

/-- ITS FALSE NEIGHBOUR: 'it returns false'. Refute it at one input. -/
def operandRegsWrong : ChangeSpec := { name := "operandRegs", fn := fun _ => fun
  | [d1, d2, d3] => { results := [.lit (.bool false)], args := [d1, d2, d3] }
  | _ => none }
def OperandRegsWrongFalsely : Prop := operandRegsRow.holds Tryd.pinned (OpenSpec.ofChange operandRegsWrong)

/-- 'cleatlaw11.OperandJoins': WHATEVER THE INPUT: true; the input reads as it did. -/
def operandJoinsSpec : ChangeSpec := { name := "operandJoins", fn := fun _ => fun
  | [d1, d2] => { results := [.lit (.bool true)], args := [d1, d2] }
  | _ => none }
def operandJoinsRow : OpenClaim := { program := "ytngoipcjipbelaadoor", sum := "74a338dcc6a69062dcce7bf46d1e60c5b8d2df46cd58568f9cf06973a7c5aee6", func := "cleat/cleatlaw11.OperandJoins", spec := "operandJoins", inPlace := ["math/bits.Add64", "internal/abi.NoEscape", "internal/bytealg.IndexByteString"], unfollowed := true, recurses := true, named := ["cleat/operand.shiftNames", "internal/strconv.uint64pow10", "math/bits.deBruijn32tab", "math/bits.deBruijn64tab", "unicode/utf8.first", "unicode/utf8.acceptRanges"], apart := false, laid := [("math/bits.deBruijn32tab", laid_math_bits_deBruijn32tab), ("math/bits.deBruijn64tab", laid_math_bits_deBruijn64tab), ("internal/strconv.uint64pow10", laid_internal_strconv_uint64pow10), ("unicode/utf8.acceptRanges", laid_unicode_utf8_acceptRanges), ("cleat/operand.shiftNames", laid_cleat_operand_shiftNames), ("unicode/utf8.first", laid_unicode_utf8_first)] }
def OperandJoinsSaid : Prop := operandJoinsRow.holds Tryd.pinned (OpenSpec.ofChange operandJoinsSpec)

/-- ITS FALSE NEIGHBOUR: 'it returns false'. Refute it at one input. -/
def operandJoinsWrong : ChangeSpec := { name := "operandJoins", fn := fun _ => fun
  | [d1, d2] => { results := [.lit (.bool false)], args := [d1, d2] }
  | _ => none }
def OperandJoinsWrongFalsely : Prop := operandJoinsRow.holds Tryd.pinned (OpenSpec.ofChange operandJoinsWrong)

/-- 'cleatlaw14.LocalSplits': WHATEVER THE INPUT: true; the input reads as it did. -/
def localSplitsSpec : ChangeSpec := { name := "localSplits", fn := fun _ => fun
  | [d1, d2] => { results := [.lit (.bool true)], args := [d1, d2] }
  | _ => none }
def localSplitsRow : OpenClaim := { program := "ytngoipcjipbelaadoor", sum := "74a338dcc6a69062dcce7bf46d1e60c5b8d2df46cd58568f9cf06973a7c5aee6", func := "cleat/cleatlaw14.LocalSplits", spec := "localSplits", inPlace := ["math/bits.Add64", "internal/abi.NoEscape", "internal/bytealg.IndexByteString"], unfollowed := true, recurses := true, named := ["internal/strconv.uint64pow10", "math/bits.deBruijn32tab", "math/bits.deBruijn64tab", "cleat/operand.shiftNames", "unicode/utf8.first", "unicode/utf8.acceptRanges"], apart := false, laid := [("math/bits.deBruijn32tab", laid_math_bits_deBruijn32tab), ("math/bits.deBruijn64tab", laid_math_bits_deBruijn64tab), ("internal/strconv.uint64pow10", laid_internal_strconv_uint64pow10), ("unicode/utf8.acceptRanges", laid_unicode_utf8_acceptRanges), ("cleat/operand.shiftNames", laid_cleat_operand_shiftNames), ("unicode/utf8.first", laid_unicode_utf8_first)] }
def LocalSplitsSaid : Prop := localSplitsRow.holds Tryd.pinned (OpenSpec.ofChange localSplitsSpec)

/-- ITS FALSE NEIGHBOUR: 'it returns false'. Refute it at one input. -/
def localSplitsWrong : ChangeSpec := { name := "localSplits", fn := fun _ => fun
  | [d1, d2] => { results := [.lit (.bool false)], args := [d1, d2] }
  | _ => none }
def LocalSplitsWrongFalsely : Prop := localSplitsRow.holds Tryd.pinned (OpenSpec.ofChange localSplitsWrong)

/-- 'cleatlaw14.LocalNear': WHATEVER THE INPUT: true; the input reads as it did. -/
def localNearSpec : ChangeSpec := { name := "localNear", fn := fun _ => fun
  | [d1, d2, d3, d4] => { results := [.lit (.bool true)], args := [d1, d2, d3, d4] }
  | _ => none }
def localNearRow : OpenClaim := { program := "ytngoipcjipbelaadoor", sum := "74a338dcc6a69062dcce7bf46d1e60c5b8d2df46cd58568f9cf06973a7c5aee6", func := "cleat/cleatlaw14.LocalNear", spec := "localNear", inPlace := ["internal/abi.NoEscape", "internal/bytealg.IndexByteString", "math/bits.Add64"], unfollowed := true, recurses := true, named := ["unicode/utf8.first", "unicode/utf8.acceptRanges", "internal/strconv.uint64pow10", "math/bits.deBruijn32tab", "math/bits.deBruijn64tab", "cleat/operand.shiftNames"], apart := false, laid := [("math/bits.deBruijn32tab", laid_math_bits_deBruijn32tab), ("math/bits.deBruijn64tab", laid_math_bits_deBruijn64tab), ("internal/strconv.uint64pow10", laid_internal_strconv_uint64pow10), ("unicode/utf8.acceptRanges", laid_unicode_utf8_acceptRanges), ("cleat/operand.shiftNames", laid_cleat_operand_shiftNames), ("unicode/utf8.first", laid_unicode_utf8_first)] }
def LocalNearSaid : Prop := localNearRow.holds Tryd.pinned (OpenSpec.ofChange localNearSpec)

/-- ITS FALSE NEIGHBOUR: 'it returns false'. Refute it at one input. -/
def localNearWrong : ChangeSpec := { name := "localNear", fn := fun _ => fun
  | [d1, d2, d3, d4] => { results := [.lit (.bool false)], args := [d1, d2, d3, d4] }
  | _ => none }
def LocalNearWrongFalsely : Prop := localNearRow.holds Tryd.pinned (OpenSpec.ofChange localNearWrong)

/-- 'cleatlaw14.LocalOwn': WHATEVER THE INPUT: true; the input reads as it did. -/
def localOwnSpec : ChangeSpec := { name := "localOwn", fn := fun _ => fun
  | [d1, d2] => { results := [.lit (.bool true)], args := [d1, d2] }
  | _ => none }
def localOwnRow : OpenClaim := { program := "ytngoipcjipbelaadoor", sum := "74a338dcc6a69062dcce7bf46d1e60c5b8d2df46cd58568f9cf06973a7c5aee6", func := "cleat/cleatlaw14.LocalOwn", spec := "localOwn", inPlace := ["internal/abi.NoEscape", "internal/bytealg.IndexByteString", "math/bits.Add64"], unfollowed := true, recurses := true, named := ["unicode/utf8.first", "unicode/utf8.acceptRanges", "internal/strconv.uint64pow10", "math/bits.deBruijn32tab", "math/bits.deBruijn64tab", "cleat/operand.shiftNames"], apart := false, laid := [("math/bits.deBruijn32tab", laid_math_bits_deBruijn32tab), ("math/bits.deBruijn64tab", laid_math_bits_deBruijn64tab), ("internal/strconv.uint64pow10", laid_internal_strconv_uint64pow10), ("unicode/utf8.acceptRanges", laid_unicode_utf8_acceptRanges), ("cleat/operand.shiftNames", laid_cleat_operand_shiftNames), ("unicode/utf8.first", laid_unicode_utf8_first)] }
def LocalOwnSaid : Prop := localOwnRow.holds Tryd.pinned (OpenSpec.ofChange localOwnSpec)

/-- ITS FALSE NEIGHBOUR: 'it returns false'. Refute it at one input. -/
def localOwnWrong : ChangeSpec := { name := "localOwn", fn := fun _ => fun
  | [d1, d2] => { results := [.lit (.bool false)], args := [d1, d2] }
  | _ => none }
def LocalOwnWrongFalsely : Prop := localOwnRow.holds Tryd.pinned (OpenSpec.ofChange localOwnWrong)

/-- 'cleatlaw14.LocalText': WHATEVER THE INPUT: true; the input reads as it did. -/
def localTextSpec : ChangeSpec := { name := "localText", fn := fun _ => fun
  | [d1, d2] => { results := [.lit (.bool true)], args := [d1, d2] }
  | _ => none }
def localTextRow : OpenClaim := { program := "ytngoipcjipbelaadoor", sum := "74a338dcc6a69062dcce7bf46d1e60c5b8d2df46cd58568f9cf06973a7c5aee6", func := "cleat/cleatlaw14.LocalText", spec := "localText", inPlace := ["internal/abi.NoEscape", "internal/bytealg.IndexByteString", "math/bits.Add64"], unfollowed := true, recurses := true, named := ["internal/strconv.uint64pow10", "math/bits.deBruijn32tab", "math/bits.deBruijn64tab", "unicode/utf8.first", "unicode/utf8.acceptRanges", "cleat/operand.shiftNames"], apart := false, laid := [("math/bits.deBruijn32tab", laid_math_bits_deBruijn32tab), ("math/bits.deBruijn64tab", laid_math_bits_deBruijn64tab), ("internal/strconv.uint64pow10", laid_internal_strconv_uint64pow10), ("unicode/utf8.acceptRanges", laid_unicode_utf8_acceptRanges), ("cleat/operand.shiftNames", laid_cleat_operand_shiftNames), ("unicode/utf8.first", laid_unicode_utf8_first)] }
def LocalTextSaid : Prop := localTextRow.holds Tryd.pinned (OpenSpec.ofChange localTextSpec)

/-- ITS FALSE NEIGHBOUR: 'it returns false'. Refute it at one input. -/
def localTextWrong : ChangeSpec := { name := "localText", fn := fun _ => fun
  | [d1, d2] => { results := [.lit (.bool false)], args := [d1, d2] }
  | _ => none }
def LocalTextWrongFalsely : Prop := localTextRow.holds Tryd.pinned (OpenSpec.ofChange localTextWrong)

/- THE SECOND FORM. 'bulk': how many values and letters a reading holds, each counted each time it is reached (what is shared counts as often as it is met; a slice's spare places count too). A statement '..UptoSaid' is the law's where the arguments, and the package variables that the reading takes, are together of bulk at most 1048576: NARROWER than '..Said'. Prove '..Said' where nothing that the law and all that it calls make is longer than what came in: it says more and counts as full. Else prove '..UptoSaid'. A law counts once. -/
mutual
def uptoBulk {H : Type} : DataW H → Nat
  | .lit (.string bytes) => bytes.length + 1
  | .lit _ => 1
  | .nil => 1
  | .ptr d => uptoBulk d + 1
  | .slice elems spare => uptoBulkAll elems + uptoBulkAll spare + 1
  | .agg parts => uptoBulkAll parts + 1
  | .iface _ d => uptoBulk d + 1
  | .map entries => uptoBulkEntries entries + 1
  | .held _ => 1
def uptoBulkAll {H : Type} : List (DataW H) → Nat
  | [] => 0
  | d :: r => uptoBulk d + uptoBulkAll r
def uptoBulkEntries {H : Type} : List (Lit × DataW H) → Nat
  | [] => 0
  | x :: r => uptoBulkEntry x + uptoBulkEntries r
def uptoBulkEntry {H : Type} : Lit × DataW H → Nat
  | (.string bytes, d) => bytes.length + uptoBulk d + 1
  | (_, d) => uptoBulk d + 1
 end
def uptoSmall : (H : Type) → List (DataW H) → Bool := fun _ ds => decide (uptoBulkAll ds ≤ 1048576)
def OpenSpec.upto (s : _root_.Go.ChangeSpec) : _root_.Go.OpenSpec := { _root_.Go.OpenSpec.ofChange s with cond := some uptoSmall }

/-- 'cleatlaw09.LexBack', WHERE WHAT IT READS IS OF BULK AT MOST 1048576: true; the input reads as it did. -/
def lexBackUptoRow : OpenClaim := { program := "ytngoipcjipbelaadoor", sum := "74a338dcc6a69062dcce7bf46d1e60c5b8d2df46cd58568f9cf06973a7c5aee6", func := "cleat/cleatlaw09.LexBack", spec := "lexBack", inPlace := ["internal/abi.NoEscape", "internal/bytealg.IndexByteString"], named := ["unicode/utf8.first", "unicode/utf8.acceptRanges"], apart := false, laid := [("unicode/utf8.acceptRanges", laid_unicode_utf8_acceptRanges), ("unicode/utf8.first", laid_unicode_utf8_first)], narrowed := true }
def LexBackUptoSaid : Prop := lexBackUptoRow.holds Tryd.pinned (OpenSpec.upto lexBackSpec)

/-- 'cleatlaw09.LexJoins', WHERE WHAT IT READS IS OF BULK AT MOST 1048576: true; the input reads as it did. -/
def lexJoinsUptoRow : OpenClaim := { program := "ytngoipcjipbelaadoor", sum := "74a338dcc6a69062dcce7bf46d1e60c5b8d2df46cd58568f9cf06973a7c5aee6", func := "cleat/cleatlaw09.LexJoins", spec := "lexJoins", inPlace := ["internal/abi.NoEscape", "internal/bytealg.IndexByteString"], named := ["unicode/utf8.first", "unicode/utf8.acceptRanges"], apart := false, laid := [("unicode/utf8.acceptRanges", laid_unicode_utf8_acceptRanges), ("unicode/utf8.first", laid_unicode_utf8_first)], narrowed := true }
def LexJoinsUptoSaid : Prop := lexJoinsUptoRow.holds Tryd.pinned (OpenSpec.upto lexJoinsSpec)

/-- 'cleatlaw09.LexComment', WHERE WHAT IT READS IS OF BULK AT MOST 1048576: true; the input reads as it did. -/
def lexCommentUptoRow : OpenClaim := { program := "ytngoipcjipbelaadoor", sum := "74a338dcc6a69062dcce7bf46d1e60c5b8d2df46cd58568f9cf06973a7c5aee6", func := "cleat/cleatlaw09.LexComment", spec := "lexComment", inPlace := ["internal/abi.NoEscape", "internal/bytealg.IndexByteString"], named := ["unicode/utf8.first", "unicode/utf8.acceptRanges"], apart := false, laid := [("unicode/utf8.acceptRanges", laid_unicode_utf8_acceptRanges), ("unicode/utf8.first", laid_unicode_utf8_first)], narrowed := true }
def LexCommentUptoSaid : Prop := lexCommentUptoRow.holds Tryd.pinned (OpenSpec.upto lexCommentSpec)

/-- 'cleatlaw09.LexWord', WHERE WHAT IT READS IS OF BULK AT MOST 1048576: true; the input reads as it did. -/
def lexWordUptoRow : OpenClaim := { program := "ytngoipcjipbelaadoor", sum := "74a338dcc6a69062dcce7bf46d1e60c5b8d2df46cd58568f9cf06973a7c5aee6", func := "cleat/cleatlaw09.LexWord", spec := "lexWord", inPlace := ["internal/abi.NoEscape", "internal/bytealg.IndexByteString"], named := ["unicode/utf8.first", "unicode/utf8.acceptRanges"], apart := false, laid := [("unicode/utf8.acceptRanges", laid_unicode_utf8_acceptRanges), ("unicode/utf8.first", laid_unicode_utf8_first)], narrowed := true }
def LexWordUptoSaid : Prop := lexWordUptoRow.holds Tryd.pinned (OpenSpec.upto lexWordSpec)

/-- 'cleatlaw11.OperandNames', WHERE WHAT IT READS IS OF BULK AT MOST 1048576: true; the input reads as it did. -/
def operandNamesUptoRow : OpenClaim := { program := "ytngoipcjipbelaadoor", sum := "74a338dcc6a69062dcce7bf46d1e60c5b8d2df46cd58568f9cf06973a7c5aee6", func := "cleat/cleatlaw11.OperandNames", spec := "operandNames", inPlace := ["math/bits.Add64", "internal/abi.NoEscape", "internal/bytealg.IndexByteString"], unfollowed := true, recurses := true, named := ["internal/strconv.uint64pow10", "math/bits.deBruijn32tab", "math/bits.deBruijn64tab", "unicode/utf8.first", "unicode/utf8.acceptRanges", "cleat/operand.shiftNames"], apart := false, laid := [("math/bits.deBruijn32tab", laid_math_bits_deBruijn32tab), ("math/bits.deBruijn64tab", laid_math_bits_deBruijn64tab), ("internal/strconv.uint64pow10", laid_internal_strconv_uint64pow10), ("unicode/utf8.acceptRanges", laid_unicode_utf8_acceptRanges), ("cleat/operand.shiftNames", laid_cleat_operand_shiftNames), ("unicode/utf8.first", laid_unicode_utf8_first)], narrowed := true }
def OperandNamesUptoSaid : Prop := operandNamesUptoRow.holds Tryd.pinned (OpenSpec.upto operandNamesSpec)

/-- 'cleatlaw11.OperandRegs', WHERE WHAT IT READS IS OF BULK AT MOST 1048576: true; the input reads as it did. -/
def operandRegsUptoRow : OpenClaim := { program := "ytngoipcjipbelaadoor", sum := "74a338dcc6a69062dcce7bf46d1e60c5b8d2df46cd58568f9cf06973a7c5aee6", func := "cleat/cleatlaw11.OperandRegs", spec := "operandRegs", inPlace := ["math/bits.Add64", "internal/abi.NoEscape", "internal/bytealg.IndexByteString"], unfollowed := true, recurses := true, named := ["internal/strconv.uint64pow10", "math/bits.deBruijn32tab", "math/bits.deBruijn64tab", "unicode/utf8.first", "unicode/utf8.acceptRanges", "cleat/operand.shiftNames"], apart := false, laid := [("math/bits.deBruijn32tab", laid_math_bits_deBruijn32tab), ("math/bits.deBruijn64tab", laid_math_bits_deBruijn64tab), ("internal/strconv.uint64pow10", laid_internal_strconv_uint64pow10), ("unicode/utf8.acceptRanges", laid_unicode_utf8_acceptRanges), ("cleat/operand.shiftNames", laid_cleat_operand_shiftNames), ("unicode/utf8.first", laid_unicode_utf8_first)], narrowed := true }
def OperandRegsUptoSaid : Prop := operandRegsUptoRow.holds Tryd.pinned (OpenSpec.upto operandRegsSpec)

/-- 'cleatlaw11.OperandJoins', WHERE WHAT IT READS IS OF BULK AT MOST 1048576: true; the input reads as it did. -/
def operandJoinsUptoRow : OpenClaim := { program := "ytngoipcjipbelaadoor", sum := "74a338dcc6a69062dcce7bf46d1e60c5b8d2df46cd58568f9cf06973a7c5aee6", func := "cleat/cleatlaw11.OperandJoins", spec := "operandJoins", inPlace := ["math/bits.Add64", "internal/abi.NoEscape", "internal/bytealg.IndexByteString"], unfollowed := true, recurses := true, named := ["cleat/operand.shiftNames", "internal/strconv.uint64pow10", "math/bits.deBruijn32tab", "math/bits.deBruijn64tab", "unicode/utf8.first", "unicode/utf8.acceptRanges"], apart := false, laid := [("math/bits.deBruijn32tab", laid_math_bits_deBruijn32tab), ("math/bits.deBruijn64tab", laid_math_bits_deBruijn64tab), ("internal/strconv.uint64pow10", laid_internal_strconv_uint64pow10), ("unicode/utf8.acceptRanges", laid_unicode_utf8_acceptRanges), ("cleat/operand.shiftNames", laid_cleat_operand_shiftNames), ("unicode/utf8.first", laid_unicode_utf8_first)], narrowed := true }
def OperandJoinsUptoSaid : Prop := operandJoinsUptoRow.holds Tryd.pinned (OpenSpec.upto operandJoinsSpec)

/-- 'cleatlaw14.LocalSplits', WHERE WHAT IT READS IS OF BULK AT MOST 1048576: true; the input reads as it did. -/
def localSplitsUptoRow : OpenClaim := { program := "ytngoipcjipbelaadoor", sum := "74a338dcc6a69062dcce7bf46d1e60c5b8d2df46cd58568f9cf06973a7c5aee6", func := "cleat/cleatlaw14.LocalSplits", spec := "localSplits", inPlace := ["math/bits.Add64", "internal/abi.NoEscape", "internal/bytealg.IndexByteString"], unfollowed := true, recurses := true, named := ["internal/strconv.uint64pow10", "math/bits.deBruijn32tab", "math/bits.deBruijn64tab", "cleat/operand.shiftNames", "unicode/utf8.first", "unicode/utf8.acceptRanges"], apart := false, laid := [("math/bits.deBruijn32tab", laid_math_bits_deBruijn32tab), ("math/bits.deBruijn64tab", laid_math_bits_deBruijn64tab), ("internal/strconv.uint64pow10", laid_internal_strconv_uint64pow10), ("unicode/utf8.acceptRanges", laid_unicode_utf8_acceptRanges), ("cleat/operand.shiftNames", laid_cleat_operand_shiftNames), ("unicode/utf8.first", laid_unicode_utf8_first)], narrowed := true }
def LocalSplitsUptoSaid : Prop := localSplitsUptoRow.holds Tryd.pinned (OpenSpec.upto localSplitsSpec)

/-- 'cleatlaw14.LocalNear', WHERE WHAT IT READS IS OF BULK AT MOST 1048576: true; the input reads as it did. -/
def localNearUptoRow : OpenClaim := { program := "ytngoipcjipbelaadoor", sum := "74a338dcc6a69062dcce7bf46d1e60c5b8d2df46cd58568f9cf06973a7c5aee6", func := "cleat/cleatlaw14.LocalNear", spec := "localNear", inPlace := ["internal/abi.NoEscape", "internal/bytealg.IndexByteString", "math/bits.Add64"], unfollowed := true, recurses := true, named := ["unicode/utf8.first", "unicode/utf8.acceptRanges", "internal/strconv.uint64pow10", "math/bits.deBruijn32tab", "math/bits.deBruijn64tab", "cleat/operand.shiftNames"], apart := false, laid := [("math/bits.deBruijn32tab", laid_math_bits_deBruijn32tab), ("math/bits.deBruijn64tab", laid_math_bits_deBruijn64tab), ("internal/strconv.uint64pow10", laid_internal_strconv_uint64pow10), ("unicode/utf8.acceptRanges", laid_unicode_utf8_acceptRanges), ("cleat/operand.shiftNames", laid_cleat_operand_shiftNames), ("unicode/utf8.first", laid_unicode_utf8_first)], narrowed := true }
def LocalNearUptoSaid : Prop := localNearUptoRow.holds Tryd.pinned (OpenSpec.upto localNearSpec)

/-- 'cleatlaw14.LocalOwn', WHERE WHAT IT READS IS OF BULK AT MOST 1048576: true; the input reads as it did. -/
def localOwnUptoRow : OpenClaim := { program := "ytngoipcjipbelaadoor", sum := "74a338dcc6a69062dcce7bf46d1e60c5b8d2df46cd58568f9cf06973a7c5aee6", func := "cleat/cleatlaw14.LocalOwn", spec := "localOwn", inPlace := ["internal/abi.NoEscape", "internal/bytealg.IndexByteString", "math/bits.Add64"], unfollowed := true, recurses := true, named := ["unicode/utf8.first", "unicode/utf8.acceptRanges", "internal/strconv.uint64pow10", "math/bits.deBruijn32tab", "math/bits.deBruijn64tab", "cleat/operand.shiftNames"], apart := false, laid := [("math/bits.deBruijn32tab", laid_math_bits_deBruijn32tab), ("math/bits.deBruijn64tab", laid_math_bits_deBruijn64tab), ("internal/strconv.uint64pow10", laid_internal_strconv_uint64pow10), ("unicode/utf8.acceptRanges", laid_unicode_utf8_acceptRanges), ("cleat/operand.shiftNames", laid_cleat_operand_shiftNames), ("unicode/utf8.first", laid_unicode_utf8_first)], narrowed := true }
def LocalOwnUptoSaid : Prop := localOwnUptoRow.holds Tryd.pinned (OpenSpec.upto localOwnSpec)

/-- 'cleatlaw14.LocalText', WHERE WHAT IT READS IS OF BULK AT MOST 1048576: true; the input reads as it did. -/
def localTextUptoRow : OpenClaim := { program := "ytngoipcjipbelaadoor", sum := "74a338dcc6a69062dcce7bf46d1e60c5b8d2df46cd58568f9cf06973a7c5aee6", func := "cleat/cleatlaw14.LocalText", spec := "localText", inPlace := ["internal/abi.NoEscape", "internal/bytealg.IndexByteString", "math/bits.Add64"], unfollowed := true, recurses := true, named := ["internal/strconv.uint64pow10", "math/bits.deBruijn32tab", "math/bits.deBruijn64tab", "unicode/utf8.first", "unicode/utf8.acceptRanges", "cleat/operand.shiftNames"], apart := false, laid := [("math/bits.deBruijn32tab", laid_math_bits_deBruijn32tab), ("math/bits.deBruijn64tab", laid_math_bits_deBruijn64tab), ("internal/strconv.uint64pow10", laid_internal_strconv_uint64pow10), ("unicode/utf8.acceptRanges", laid_unicode_utf8_acceptRanges), ("cleat/operand.shiftNames", laid_cleat_operand_shiftNames), ("unicode/utf8.first", laid_unicode_utf8_first)], narrowed := true }
def LocalTextUptoSaid : Prop := localTextUptoRow.holds Tryd.pinned (OpenSpec.upto localTextSpec)

end Rows
end Go.Proofs.YtngoipcjipbelaaDoor
