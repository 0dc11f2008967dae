/-
  NARROWER THAN 'FOR EVERY INPUT', by the rows' own cells (each row's printed sentence says how): LineRight: laid · LineNeeds: laid · LineTold: laid · LineConds: laid.
  DERIVED. THE GIVEN ROWS OF THIS SEAT. 4 by the template 'for every input the law returns true; each argument reads behind the call as it read before'; 0 by the template 'total and deterministic' (their statements: YthejefldnpeciaaGreatDoorTotals.lean).
  GIVEN WITH THE SEED: the statements are not yours to turn. If you find one false, say at which input.
  Laid BY PROGRAM, IN A SANDBOX (cutbox-rows.mjs): the forced cells as the released guide's own fill.sh prints them over the translation 3d96a0ecda0960a8… (all of the seat's roots in one cut). By AI agents, Wed Nov 11 2026. No macro, syntax, notation, axiom, sorry.
-/
import Derived.Test.YthejefldnpeciaaGreatDoorChecked
import GoSem.PinnedTables
import GoSem.Claim
import GoSem.ClaimJoined
import GoSem.ClaimMapViews
import Derived.JoinedTies
import Derived.KernelRfl
namespace Go.Proofs.YthejefldnpeciaaGreatDoor
/- THE CELL 'sum', in the pinned program and in every row, IS THE sha256 OF THE DUMP (.gsa) THAT YthejefldnpeciaaGreatDoorProg.lean LOADS. Nothing in Lean hashes anything: it is a label: what it is worth is what the hold of that sum in a sandbox is worth. -/
noncomputable def Tryz.pinned : Pinned := { name := "ythejefldnpeciaagreatdoor", sum := "3d96a0ecda0960a8745a524931b24b97bae0c06bf267293c70407df5f45726f0", checked := Tryz.checked }
namespace Rows
def none {H : Type} : Left H := { results := [], args := [] }

/- WHAT THE LISTED PACKAGE-LEVEL VARIABLES READ AS WHEN THE CALL BEGINS. Each datum BY PROGRAM (the guide's laid-datum.mjs) off the statement by which the dump's own 'gosem.cut.vars' lays the variable. In a bare row this is a premise. The card (YthejefldnpeciaaGreatDoorCards.lean) ties it to the program's text. -/
def laid_math_bits_deBruijn32tab {H : Type} : DataW H := .agg [.lit (.int .u8 0), .lit (.int .u8 1), .lit (.int .u8 28), .lit (.int .u8 2), .lit (.int .u8 29), .lit (.int .u8 14), .lit (.int .u8 24), .lit (.int .u8 3), .lit (.int .u8 30), .lit (.int .u8 22), .lit (.int .u8 20), .lit (.int .u8 15), .lit (.int .u8 25), .lit (.int .u8 17), .lit (.int .u8 4), .lit (.int .u8 8), .lit (.int .u8 31), .lit (.int .u8 27), .lit (.int .u8 13), .lit (.int .u8 23), .lit (.int .u8 21), .lit (.int .u8 19), .lit (.int .u8 16), .lit (.int .u8 7), .lit (.int .u8 26), .lit (.int .u8 12), .lit (.int .u8 18), .lit (.int .u8 6), .lit (.int .u8 11), .lit (.int .u8 5), .lit (.int .u8 10), .lit (.int .u8 9)]
def laid_math_bits_deBruijn64tab {H : Type} : DataW H := .agg [.lit (.int .u8 0), .lit (.int .u8 1), .lit (.int .u8 56), .lit (.int .u8 2), .lit (.int .u8 57), .lit (.int .u8 49), .lit (.int .u8 28), .lit (.int .u8 3), .lit (.int .u8 61), .lit (.int .u8 58), .lit (.int .u8 42), .lit (.int .u8 50), .lit (.int .u8 38), .lit (.int .u8 29), .lit (.int .u8 17), .lit (.int .u8 4), .lit (.int .u8 62), .lit (.int .u8 47), .lit (.int .u8 59), .lit (.int .u8 36), .lit (.int .u8 45), .lit (.int .u8 43), .lit (.int .u8 51), .lit (.int .u8 22), .lit (.int .u8 53), .lit (.int .u8 39), .lit (.int .u8 33), .lit (.int .u8 30), .lit (.int .u8 24), .lit (.int .u8 18), .lit (.int .u8 12), .lit (.int .u8 5), .lit (.int .u8 63), .lit (.int .u8 55), .lit (.int .u8 48), .lit (.int .u8 27), .lit (.int .u8 60), .lit (.int .u8 41), .lit (.int .u8 37), .lit (.int .u8 16), .lit (.int .u8 46), .lit (.int .u8 35), .lit (.int .u8 44), .lit (.int .u8 21), .lit (.int .u8 52), .lit (.int .u8 32), .lit (.int .u8 23), .lit (.int .u8 11), .lit (.int .u8 54), .lit (.int .u8 26), .lit (.int .u8 40), .lit (.int .u8 15), .lit (.int .u8 34), .lit (.int .u8 20), .lit (.int .u8 31), .lit (.int .u8 10), .lit (.int .u8 25), .lit (.int .u8 14), .lit (.int .u8 19), .lit (.int .u8 9), .lit (.int .u8 13), .lit (.int .u8 8), .lit (.int .u8 7), .lit (.int .u8 6)]
def laid_cleat_inst_shapes {H : Type} : DataW H := .agg [.lit (.int .i64 0), .lit (.int .i64 1), .lit (.int .i64 1), .lit (.int .i64 1), .lit (.int .i64 2), .lit (.int .i64 2), .lit (.int .i64 2), .lit (.int .i64 2), .lit (.int .i64 3), .lit (.int .i64 3), .lit (.int .i64 3), .lit (.int .i64 3), .lit (.int .i64 4), .lit (.int .i64 4), .lit (.int .i64 4), .lit (.int .i64 4), .lit (.int .i64 5), .lit (.int .i64 5), .lit (.int .i64 5), .lit (.int .i64 5), .lit (.int .i64 6), .lit (.int .i64 6), .lit (.int .i64 7), .lit (.int .i64 7), .lit (.int .i64 8), .lit (.int .i64 8), .lit (.int .i64 9), .lit (.int .i64 10), .lit (.int .i64 10), .lit (.int .i64 11), .lit (.int .i64 11), .lit (.int .i64 12), .lit (.int .i64 9), .lit (.int .i64 9), .lit (.int .i64 13), .lit (.int .i64 13), .lit (.int .i64 13), .lit (.int .i64 14), .lit (.int .i64 15), .lit (.int .i64 16)]
def laid_cleat_inst_names {H : Type} : DataW H := .agg [.lit (.string []), .lit (.string [109, 111, 118, 122]), .lit (.string [109, 111, 118, 110]), .lit (.string [109, 111, 118, 107]), .lit (.string [97, 100, 100]), .lit (.string [115, 117, 98]), .lit (.string [97, 100, 100, 115]), .lit (.string [115, 117, 98, 115]), .lit (.string [97, 110, 100]), .lit (.string [111, 114, 114]), .lit (.string [101, 111, 114]), .lit (.string [97, 110, 100, 115]), .lit (.string [97, 100, 100]), .lit (.string [115, 117, 98]), .lit (.string [97, 100, 100, 115]), .lit (.string [115, 117, 98, 115]), .lit (.string [97, 110, 100]), .lit (.string [111, 114, 114]), .lit (.string [101, 111, 114]), .lit (.string [97, 110, 100, 115]), .lit (.string [109, 97, 100, 100]), .lit (.string [109, 115, 117, 98]), .lit (.string [108, 100, 114]), .lit (.string [115, 116, 114]), .lit (.string [108, 100, 114, 98]), .lit (.string [115, 116, 114, 98]), .lit (.string [108, 100, 114]), .lit (.string [97, 100, 114]), .lit (.string [97, 100, 114, 112]), .lit (.string [98]), .lit (.string [98, 108]), .lit (.string [98]), .lit (.string [99, 98, 122]), .lit (.string [99, 98, 110, 122]), .lit (.string [98, 114]), .lit (.string [98, 108, 114]), .lit (.string [114, 101, 116]), .lit (.string [115, 118, 99]), .lit (.string [110, 111, 112]), .lit (.string [99, 115, 101, 108])]
def laid_internal_strconv_uint64pow10 {H : Type} : DataW H := .agg [.lit (.int .u64 1), .lit (.int .u64 10), .lit (.int .u64 100), .lit (.int .u64 1000), .lit (.int .u64 10000), .lit (.int .u64 100000), .lit (.int .u64 1000000), .lit (.int .u64 10000000), .lit (.int .u64 100000000), .lit (.int .u64 1000000000), .lit (.int .u64 10000000000), .lit (.int .u64 100000000000), .lit (.int .u64 1000000000000), .lit (.int .u64 10000000000000), .lit (.int .u64 100000000000000), .lit (.int .u64 1000000000000000), .lit (.int .u64 10000000000000000), .lit (.int .u64 100000000000000000), .lit (.int .u64 1000000000000000000), .lit (.int .u64 10000000000000000000)]
def laid_unicode_utf8_acceptRanges {H : Type} : DataW H := .agg [.agg [.lit (.int .u8 128), .lit (.int .u8 191)], .agg [.lit (.int .u8 160), .lit (.int .u8 191)], .agg [.lit (.int .u8 128), .lit (.int .u8 159)], .agg [.lit (.int .u8 144), .lit (.int .u8 191)], .agg [.lit (.int .u8 128), .lit (.int .u8 143)], .agg [.lit (.int .u8 0), .lit (.int .u8 0)], .agg [.lit (.int .u8 0), .lit (.int .u8 0)], .agg [.lit (.int .u8 0), .lit (.int .u8 0)], .agg [.lit (.int .u8 0), .lit (.int .u8 0)], .agg [.lit (.int .u8 0), .lit (.int .u8 0)], .agg [.lit (.int .u8 0), .lit (.int .u8 0)], .agg [.lit (.int .u8 0), .lit (.int .u8 0)], .agg [.lit (.int .u8 0), .lit (.int .u8 0)], .agg [.lit (.int .u8 0), .lit (.int .u8 0)], .agg [.lit (.int .u8 0), .lit (.int .u8 0)], .agg [.lit (.int .u8 0), .lit (.int .u8 0)]]
def laid_cleat_operand_shiftNames {H : Type} : DataW H := .agg [.lit (.string [108, 115, 108]), .lit (.string [108, 115, 114]), .lit (.string [97, 115, 114]), .lit (.string [114, 111, 114])]
def laid_cleat_line_conds {H : Type} : DataW H := .agg [.lit (.string [101, 113]), .lit (.string [110, 101]), .lit (.string [104, 115]), .lit (.string [108, 111]), .lit (.string [109, 105]), .lit (.string [112, 108]), .lit (.string [118, 115]), .lit (.string [118, 99]), .lit (.string [104, 105]), .lit (.string [108, 115]), .lit (.string [103, 101]), .lit (.string [108, 116]), .lit (.string [103, 116]), .lit (.string [108, 101])]
/-- One of Go's own tables, pinned by name: the form's constant. -/
def laid_unicode_utf8_first : DataW Unit := Go.Pinned.utf8First

/-- 'cleatlaw12.LineRight': WHATEVER THE INPUT: true; the input reads as it did. -/
def lineRightSpec : ChangeSpec := { name := "lineRight", fn := fun _ => fun
  | [d1, d2] => { results := [.lit (.bool true)], args := [d1, d2] }
  | _ => none }
def lineRightRow : OpenClaim := { program := "ythejefldnpeciaagreatdoor", sum := "3d96a0ecda0960a8745a524931b24b97bae0c06bf267293c70407df5f45726f0", func := "cleat/cleatlaw12.LineRight", spec := "lineRight", inPlace := ["internal/abi.NoEscape", "internal/bytealg.IndexByteString", "math/bits.Add64"], unfollowed := true, recurses := true, named := ["cleat/line.conds", "cleat/inst.shapes", "math/bits.deBruijn64tab", "unicode/utf8.first", "unicode/utf8.acceptRanges", "cleat/operand.shiftNames", "internal/strconv.uint64pow10", "math/bits.deBruijn32tab", "cleat/inst.names"], apart := false, laid := [("math/bits.deBruijn32tab", laid_math_bits_deBruijn32tab), ("math/bits.deBruijn64tab", laid_math_bits_deBruijn64tab), ("cleat/inst.shapes", laid_cleat_inst_shapes), ("cleat/inst.names", laid_cleat_inst_names), ("internal/strconv.uint64pow10", laid_internal_strconv_uint64pow10), ("unicode/utf8.acceptRanges", laid_unicode_utf8_acceptRanges), ("cleat/operand.shiftNames", laid_cleat_operand_shiftNames), ("cleat/line.conds", laid_cleat_line_conds), ("unicode/utf8.first", laid_unicode_utf8_first)] }
def LineRightSaid : Prop := lineRightRow.holds Tryz.pinned (OpenSpec.ofChange lineRightSpec)

/-- ITS FALSE NEIGHBOUR: 'it returns false'. Refute it at one input. -/
def lineRightWrong : ChangeSpec := { name := "lineRight", fn := fun _ => fun
  | [d1, d2] => { results := [.lit (.bool false)], args := [d1, d2] }
  | _ => none }
def LineRightWrongFalsely : Prop := lineRightRow.holds Tryz.pinned (OpenSpec.ofChange lineRightWrong)

/-- 'cleatlaw12.LineNeeds': WHATEVER THE INPUT: true; the input reads as it did. -/
def lineNeedsSpec : ChangeSpec := { name := "lineNeeds", fn := fun _ => fun
  | [d1, d2] => { results := [.lit (.bool true)], args := [d1, d2] }
  | _ => none }
def lineNeedsRow : OpenClaim := { program := "ythejefldnpeciaagreatdoor", sum := "3d96a0ecda0960a8745a524931b24b97bae0c06bf267293c70407df5f45726f0", func := "cleat/cleatlaw12.LineNeeds", spec := "lineNeeds", inPlace := ["internal/abi.NoEscape", "internal/bytealg.IndexByteString", "math/bits.Add64"], unfollowed := true, recurses := true, named := ["cleat/line.conds", "cleat/inst.shapes", "math/bits.deBruijn64tab", "unicode/utf8.first", "unicode/utf8.acceptRanges", "cleat/operand.shiftNames", "internal/strconv.uint64pow10", "math/bits.deBruijn32tab"], apart := false, laid := [("math/bits.deBruijn32tab", laid_math_bits_deBruijn32tab), ("math/bits.deBruijn64tab", laid_math_bits_deBruijn64tab), ("cleat/inst.shapes", laid_cleat_inst_shapes), ("internal/strconv.uint64pow10", laid_internal_strconv_uint64pow10), ("unicode/utf8.acceptRanges", laid_unicode_utf8_acceptRanges), ("cleat/operand.shiftNames", laid_cleat_operand_shiftNames), ("cleat/line.conds", laid_cleat_line_conds), ("unicode/utf8.first", laid_unicode_utf8_first)] }
def LineNeedsSaid : Prop := lineNeedsRow.holds Tryz.pinned (OpenSpec.ofChange lineNeedsSpec)

/-- ITS FALSE NEIGHBOUR: 'it returns false'. Refute it at one input. -/
def lineNeedsWrong : ChangeSpec := { name := "lineNeeds", fn := fun _ => fun
  | [d1, d2] => { results := [.lit (.bool false)], args := [d1, d2] }
  | _ => none }
def LineNeedsWrongFalsely : Prop := lineNeedsRow.holds Tryz.pinned (OpenSpec.ofChange lineNeedsWrong)

/-- 'cleatlaw12.LineTold': WHATEVER THE INPUT: true; the input reads as it did. -/
def lineToldSpec : ChangeSpec := { name := "lineTold", fn := fun _ => fun
  | [d] => { results := [.lit (.bool true)], args := [d] }
  | _ => none }
def lineToldRow : OpenClaim := { program := "ythejefldnpeciaagreatdoor", sum := "3d96a0ecda0960a8745a524931b24b97bae0c06bf267293c70407df5f45726f0", func := "cleat/cleatlaw12.LineTold", spec := "lineTold", inPlace := ["internal/abi.NoEscape", "internal/bytealg.IndexByteString", "math/bits.Add64"], unfollowed := true, recurses := true, named := ["cleat/inst.shapes", "math/bits.deBruijn64tab", "unicode/utf8.first", "unicode/utf8.acceptRanges", "cleat/operand.shiftNames", "internal/strconv.uint64pow10", "math/bits.deBruijn32tab", "cleat/line.conds", "cleat/inst.names"], apart := false, laid := [("math/bits.deBruijn32tab", laid_math_bits_deBruijn32tab), ("math/bits.deBruijn64tab", laid_math_bits_deBruijn64tab), ("cleat/inst.shapes", laid_cleat_inst_shapes), ("cleat/inst.names", laid_cleat_inst_names), ("internal/strconv.uint64pow10", laid_internal_strconv_uint64pow10), ("unicode/utf8.acceptRanges", laid_unicode_utf8_acceptRanges), ("cleat/operand.shiftNames", laid_cleat_operand_shiftNames), ("cleat/line.conds", laid_cleat_line_conds), ("unicode/utf8.first", laid_unicode_utf8_first)] }
def LineToldSaid : Prop := lineToldRow.holds Tryz.pinned (OpenSpec.ofChange lineToldSpec)

/-- ITS FALSE NEIGHBOUR: 'it returns false'. Refute it at one input. -/
def lineToldWrong : ChangeSpec := { name := "lineTold", fn := fun _ => fun
  | [d] => { results := [.lit (.bool false)], args := [d] }
  | _ => none }
def LineToldWrongFalsely : Prop := lineToldRow.holds Tryz.pinned (OpenSpec.ofChange lineToldWrong)

/-- 'cleatlaw12.LineConds': WHATEVER THE INPUT: true; the input reads as it did. -/
def lineCondsSpec : ChangeSpec := { name := "lineConds", fn := fun _ => fun
  | [d1, d2] => { results := [.lit (.bool true)], args := [d1, d2] }
  | _ => none }
def lineCondsRow : OpenClaim := { program := "ythejefldnpeciaagreatdoor", sum := "3d96a0ecda0960a8745a524931b24b97bae0c06bf267293c70407df5f45726f0", func := "cleat/cleatlaw12.LineConds", spec := "lineConds", inPlace := ["internal/abi.NoEscape", "internal/bytealg.IndexByteString", "math/bits.Add64"], unfollowed := true, recurses := true, named := ["cleat/line.conds", "unicode/utf8.first", "unicode/utf8.acceptRanges", "cleat/operand.shiftNames", "internal/strconv.uint64pow10", "math/bits.deBruijn32tab", "math/bits.deBruijn64tab", "cleat/inst.shapes"], apart := false, laid := [("math/bits.deBruijn32tab", laid_math_bits_deBruijn32tab), ("math/bits.deBruijn64tab", laid_math_bits_deBruijn64tab), ("cleat/inst.shapes", laid_cleat_inst_shapes), ("internal/strconv.uint64pow10", laid_internal_strconv_uint64pow10), ("unicode/utf8.acceptRanges", laid_unicode_utf8_acceptRanges), ("cleat/operand.shiftNames", laid_cleat_operand_shiftNames), ("cleat/line.conds", laid_cleat_line_conds), ("unicode/utf8.first", laid_unicode_utf8_first)] }
def LineCondsSaid : Prop := lineCondsRow.holds Tryz.pinned (OpenSpec.ofChange lineCondsSpec)

/-- ITS FALSE NEIGHBOUR: 'it returns false'. Refute it at one input. -/
def lineCondsWrong : ChangeSpec := { name := "lineConds", fn := fun _ => fun
  | [d1, d2] => { results := [.lit (.bool false)], args := [d1, d2] }
  | _ => none }
def LineCondsWrongFalsely : Prop := lineCondsRow.holds Tryz.pinned (OpenSpec.ofChange lineCondsWrong)

/- THE SECOND FORM. 'bulk': how many values and letters a reading holds, each counted each time it is reached (what is shared counts as often as it is met; a slice's spare places count too). A statement '..UptoSaid' is the law's where the arguments, and the package variables that the reading takes, are together of bulk at most 1048576: NARROWER than '..Said'. Prove '..Said' where nothing that the law and all that it calls make is longer than what came in: it says more and counts as full. Else prove '..UptoSaid'. A law counts once. -/
mutual
def uptoBulk {H : Type} : DataW H → Nat
  | .lit (.string bytes) => bytes.length + 1
  | .lit _ => 1
  | .nil => 1
  | .ptr d => uptoBulk d + 1
  | .slice elems spare => uptoBulkAll elems + uptoBulkAll spare + 1
  | .agg parts => uptoBulkAll parts + 1
  | .iface _ d => uptoBulk d + 1
  | .map entries => uptoBulkEntries entries + 1
  | .held _ => 1
def uptoBulkAll {H : Type} : List (DataW H) → Nat
  | [] => 0
  | d :: r => uptoBulk d + uptoBulkAll r
def uptoBulkEntries {H : Type} : List (Lit × DataW H) → Nat
  | [] => 0
  | x :: r => uptoBulkEntry x + uptoBulkEntries r
def uptoBulkEntry {H : Type} : Lit × DataW H → Nat
  | (.string bytes, d) => bytes.length + uptoBulk d + 1
  | (_, d) => uptoBulk d + 1
 end
def uptoSmall : (H : Type) → List (DataW H) → Bool := fun _ ds => decide (uptoBulkAll ds ≤ 1048576)
def OpenSpec.upto (s : _root_.Go.ChangeSpec) : _root_.Go.OpenSpec := { _root_.Go.OpenSpec.ofChange s with cond := some uptoSmall }

/-- 'cleatlaw12.LineRight', WHERE WHAT IT READS IS OF BULK AT MOST 1048576: true; the input reads as it did. -/
def lineRightUptoRow : OpenClaim := { program := "ythejefldnpeciaagreatdoor", sum := "3d96a0ecda0960a8745a524931b24b97bae0c06bf267293c70407df5f45726f0", func := "cleat/cleatlaw12.LineRight", spec := "lineRight", inPlace := ["internal/abi.NoEscape", "internal/bytealg.IndexByteString", "math/bits.Add64"], unfollowed := true, recurses := true, named := ["cleat/line.conds", "cleat/inst.shapes", "math/bits.deBruijn64tab", "unicode/utf8.first", "unicode/utf8.acceptRanges", "cleat/operand.shiftNames", "internal/strconv.uint64pow10", "math/bits.deBruijn32tab", "cleat/inst.names"], apart := false, laid := [("math/bits.deBruijn32tab", laid_math_bits_deBruijn32tab), ("math/bits.deBruijn64tab", laid_math_bits_deBruijn64tab), ("cleat/inst.shapes", laid_cleat_inst_shapes), ("cleat/inst.names", laid_cleat_inst_names), ("internal/strconv.uint64pow10", laid_internal_strconv_uint64pow10), ("unicode/utf8.acceptRanges", laid_unicode_utf8_acceptRanges), ("cleat/operand.shiftNames", laid_cleat_operand_shiftNames), ("cleat/line.conds", laid_cleat_line_conds), ("unicode/utf8.first", laid_unicode_utf8_first)], narrowed := true }
def LineRightUptoSaid : Prop := lineRightUptoRow.holds Tryz.pinned (OpenSpec.upto lineRightSpec)

/-- 'cleatlaw12.LineNeeds', WHERE WHAT IT READS IS OF BULK AT MOST 1048576: true; the input reads as it did. -/
def lineNeedsUptoRow : OpenClaim := { program := "ythejefldnpeciaagreatdoor", sum := "3d96a0ecda0960a8745a524931b24b97bae0c06bf267293c70407df5f45726f0", func := "cleat/cleatlaw12.LineNeeds", spec := "lineNeeds", inPlace := ["internal/abi.NoEscape", "internal/bytealg.IndexByteString", "math/bits.Add64"], unfollowed := true, recurses := true, named := ["cleat/line.conds", "cleat/inst.shapes", "math/bits.deBruijn64tab", "unicode/utf8.first", "unicode/utf8.acceptRanges", "cleat/operand.shiftNames", "internal/strconv.uint64pow10", "math/bits.deBruijn32tab"], apart := false, laid := [("math/bits.deBruijn32tab", laid_math_bits_deBruijn32tab), ("math/bits.deBruijn64tab", laid_math_bits_deBruijn64tab), ("cleat/inst.shapes", laid_cleat_inst_shapes), ("internal/strconv.uint64pow10", laid_internal_strconv_uint64pow10), ("unicode/utf8.acceptRanges", laid_unicode_utf8_acceptRanges), ("cleat/operand.shiftNames", laid_cleat_operand_shiftNames), ("cleat/line.conds", laid_cleat_line_conds), ("unicode/utf8.first", laid_unicode_utf8_first)], narrowed := true }
def LineNeedsUptoSaid : Prop := lineNeedsUptoRow.holds Tryz.pinned (OpenSpec.upto lineNeedsSpec)

/-- 'cleatlaw12.LineTold', WHERE WHAT IT READS IS OF BULK AT MOST 1048576: true; the input reads as it did. -/
def lineToldUptoRow : OpenClaim := { program := "ythejefldnpeciaagreatdoor", sum := "3d96a0ecda0960a8745a524931b24b97bae0c06bf267293c70407df5f45726f0", func := "cleat/cleatlaw12.LineTold", spec := "lineTold", inPlace := ["internal/abi.NoEscape", "internal/bytealg.IndexByteString", "math/bits.Add64"], unfollowed := true, recurses := true, named := ["cleat/inst.shapes", "math/bits.deBruijn64tab", "unicode/utf8.first", "unicode/utf8.acceptRanges", "cleat/operand.shiftNames", "internal/strconv.uint64pow10", "math/bits.deBruijn32tab", "cleat/line.conds", "cleat/inst.names"], apart := false, laid := [("math/bits.deBruijn32tab", laid_math_bits_deBruijn32tab), ("math/bits.deBruijn64tab", laid_math_bits_deBruijn64tab), ("cleat/inst.shapes", laid_cleat_inst_shapes), ("cleat/inst.names", laid_cleat_inst_names), ("internal/strconv.uint64pow10", laid_internal_strconv_uint64pow10), ("unicode/utf8.acceptRanges", laid_unicode_utf8_acceptRanges), ("cleat/operand.shiftNames", laid_cleat_operand_shiftNames), ("cleat/line.conds", laid_cleat_line_conds), ("unicode/utf8.first", laid_unicode_utf8_first)], narrowed := true }
def LineToldUptoSaid : Prop := lineToldUptoRow.holds Tryz.pinned (OpenSpec.upto lineToldSpec)

/-- 'cleatlaw12.LineConds', WHERE WHAT IT READS IS OF BULK AT MOST 1048576: true; the input reads as it did. -/
def lineCondsUptoRow : OpenClaim := { program := "ythejefldnpeciaagreatdoor", sum := "3d96a0ecda0960a8745a524931b24b97bae0c06bf267293c70407df5f45726f0", func := "cleat/cleatlaw12.LineConds", spec := "lineConds", inPlace := ["internal/abi.NoEscape", "internal/bytealg.IndexByteString", "math/bits.Add64"], unfollowed := true, recurses := true, named := ["cleat/line.conds", "unicode/utf8.first", "unicode/utf8.acceptRanges", "cleat/operand.shiftNames", "internal/strconv.uint64pow10", "math/bits.deBruijn32tab", "math/bits.deBruijn64tab", "cleat/inst.shapes"], apart := false, laid := [("math/bits.deBruijn32tab", laid_math_bits_deBruijn32tab), ("math/bits.deBruijn64tab", laid_math_bits_deBruijn64tab), ("cleat/inst.shapes", laid_cleat_inst_shapes), ("internal/strconv.uint64pow10", laid_internal_strconv_uint64pow10), ("unicode/utf8.acceptRanges", laid_unicode_utf8_acceptRanges), ("cleat/operand.shiftNames", laid_cleat_operand_shiftNames), ("cleat/line.conds", laid_cleat_line_conds), ("unicode/utf8.first", laid_unicode_utf8_first)], narrowed := true }
def LineCondsUptoSaid : Prop := lineCondsUptoRow.holds Tryz.pinned (OpenSpec.upto lineCondsSpec)

end Rows
end Go.Proofs.YthejefldnpeciaaGreatDoor
