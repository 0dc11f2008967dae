/- 'cleatlaw12.LineTold' answers true, and leaves its arguments as they were, for every input, where the library's table holds what its text lays. No condition of ours. -/
import Derived.Test.YthejefldnpeciaaGreatDoorCards
import Derived.Test.YthejefldnpeciaaGreatDoorTie
import Derived.Test.YthejefldnpeciaaGreatDoorL
import Derived.Deep.DeepHandedRow
import Derived.Lib.LaidTab
import Derived.Stop.LaidErr
import Derived.SizedLaws
import Derived.Lib.LaidU8T
import Derived.PinnedBridge
import Derived.Test.YthejefldnpeciaaGreatDooryLWa
import Derived.Test.YthejefldnpeciaaGreatDooryLWb
import Derived.Test.YthejefldnpeciaaGreatDooryZ
namespace Go.Proofs.YthejefldnpeciaaGreatDoor
open Go.ChangeShapes Go.WideShapes Go.Deep Go.RowKit
theorem LineTold_walk (w : World) (i : In) (hI : InB i) (hT : TabM w) : Calls Tryz.prog 5 #[inV i] w (RetB (.bool true) w) := by
  by_cases h : spO i.op = false ∧ shapeI i.op ≤ 8
  · exact LineTold_a w i hI hT h
  · exact LineTold_b w i hI hT h
end Go.Proofs.YthejefldnpeciaaGreatDoor
namespace Go.Proofs.YthejefldnpeciaaGreatDoor.lineTold
open Go.ChangeShapes Go.WideShapes Go.ChangeAt Go.RowKit
open Go.ChangeMaps (open_string)
set_option linter.unusedVariables false
set_option linter.unusedSimpArgs false

theorem gTab0 : Tryz.prog.globalNamed "math/bits.deBruijn32tab" = some 9 := by kernel_rfl
theorem gTabType0 : (Tryz.prog.globals[9]?).map (·.type) = some 178 := by kernel_rfl
theorem gCells0 : Tryz.prog.cellsOf 178 = 32 := by kernel_rfl
theorem gElem0 : Tryz.prog.cellsOf 5 = 1 := by kernel_rfl
theorem table0 {W : World} (h : laidMetH Tryz.prog Rows.lineToldRow.laid W) : Lib.TabIs Tryz.prog W "math/bits.deBruijn32tab" .u8 [0, 1, 28, 2, 29, 14, 24, 3, 30, 22, 20, 15, 25, 17, 4, 8, 31, 27, 13, 23, 21, 19, 16, 7, 26, 12, 18, 6, 11, 5, 10, 9] :=
  Lib.tabIs_of_head (rest := _) gTab0 gTabType0 Tryz.underlying178 Tryz.underlying5 gElem0 gCells0 h
theorem gTab1 : Tryz.prog.globalNamed "math/bits.deBruijn64tab" = some 6 := by kernel_rfl
theorem gTabType1 : (Tryz.prog.globals[6]?).map (·.type) = some 167 := by kernel_rfl
theorem gCells1 : Tryz.prog.cellsOf 167 = 64 := by kernel_rfl
theorem gElem1 : Tryz.prog.cellsOf 5 = 1 := by kernel_rfl
theorem table1 {W : World} (h : laidMetH Tryz.prog Rows.lineToldRow.laid W) : Lib.TabIs Tryz.prog W "math/bits.deBruijn64tab" .u8 [0, 1, 56, 2, 57, 49, 28, 3, 61, 58, 42, 50, 38, 29, 17, 4, 62, 47, 59, 36, 45, 43, 51, 22, 53, 39, 33, 30, 24, 18, 12, 5, 63, 55, 48, 27, 60, 41, 37, 16, 46, 35, 44, 21, 52, 32, 23, 11, 54, 26, 40, 15, 34, 20, 31, 10, 25, 14, 19, 9, 13, 8, 7, 6] :=
  Lib.tabIs_of_head (rest := _) gTab1 gTabType1 Tryz.underlying167 Tryz.underlying5 gElem1 gCells1 (laidMet.tail h)
theorem gTab2 : Tryz.prog.globalNamed "cleat/inst.shapes" = some 1 := by kernel_rfl
theorem gTabType2 : (Tryz.prog.globals[1]?).map (·.type) = some 70 := by kernel_rfl
theorem gCells2 : Tryz.prog.cellsOf 70 = 40 := by kernel_rfl
theorem gElem2 : Tryz.prog.cellsOf 3 = 1 := by kernel_rfl
theorem table2 {W : World} (h : laidMetH Tryz.prog Rows.lineToldRow.laid W) : Lib.TabIs Tryz.prog W "cleat/inst.shapes" .i64 [0, 1, 1, 1, 2, 2, 2, 2, 3, 3, 3, 3, 4, 4, 4, 4, 5, 5, 5, 5, 6, 6, 7, 7, 8, 8, 9, 10, 10, 11, 11, 12, 9, 9, 13, 13, 13, 14, 15, 16] :=
  Lib.tabIs_of_head (rest := _) gTab2 gTabType2 Tryz.underlying70 Tryz.underlying3 gElem2 gCells2 (laidMet.tail (laidMet.tail h))
theorem gTab3 : Tryz.prog.globalNamed "cleat/inst.names" = some 0 := by kernel_rfl
theorem gTabType3 : (Tryz.prog.globals[0]?).map (·.type) = some 67 := by kernel_rfl
theorem gCells3 : Tryz.prog.cellsOf 67 = 40 := by kernel_rfl
theorem gElem3 : Tryz.prog.cellsOf 9 = 1 := by kernel_rfl
theorem table3 {W : World} (h : laidMetH Tryz.prog Rows.lineToldRow.laid W) : StrIs Tryz.prog W "cleat/inst.names" [[], [109, 111, 118, 122], [109, 111, 118, 110], [109, 111, 118, 107], [97, 100, 100], [115, 117, 98], [97, 100, 100, 115], [115, 117, 98, 115], [97, 110, 100], [111, 114, 114], [101, 111, 114], [97, 110, 100, 115], [97, 100, 100], [115, 117, 98], [97, 100, 100, 115], [115, 117, 98, 115], [97, 110, 100], [111, 114, 114], [101, 111, 114], [97, 110, 100, 115], [109, 97, 100, 100], [109, 115, 117, 98], [108, 100, 114], [115, 116, 114], [108, 100, 114, 98], [115, 116, 114, 98], [108, 100, 114], [97, 100, 114], [97, 100, 114, 112], [98], [98, 108], [98], [99, 98, 122], [99, 98, 110, 122], [98, 114], [98, 108, 114], [114, 101, 116], [115, 118, 99], [110, 111, 112], [99, 115, 101, 108]] :=
  strIs_of_head (rest := _) gTab3 gTabType3 Tryz.underlying67 Tryz.underlying9 gElem3 gCells3 (laidMet.tail (laidMet.tail (laidMet.tail h)))
theorem gTab4 : Tryz.prog.globalNamed "internal/strconv.uint64pow10" = some 8 := by kernel_rfl
theorem gTabType4 : (Tryz.prog.globals[8]?).map (·.type) = some 174 := by kernel_rfl
theorem gCells4 : Tryz.prog.cellsOf 174 = 20 := by kernel_rfl
theorem gElem4 : Tryz.prog.cellsOf 24 = 1 := by kernel_rfl
theorem table4 {W : World} (h : laidMetH Tryz.prog Rows.lineToldRow.laid W) : Lib.TabIs Tryz.prog W "internal/strconv.uint64pow10" .u64 [1, 10, 100, 1000, 10000, 100000, 1000000, 10000000, 100000000, 1000000000, 10000000000, 100000000000, 1000000000000, 10000000000000, 100000000000000, 1000000000000000, 10000000000000000, 100000000000000000, 1000000000000000000, 10000000000000000000] :=
  Lib.tabIs_of_head (rest := _) gTab4 gTabType4 Tryz.underlying174 Tryz.underlying24 gElem4 gCells4 (laidMet.tail (laidMet.tail (laidMet.tail (laidMet.tail h))))
theorem data5 : (Rows.laid_unicode_utf8_acceptRanges : DataW Unit) = Lib.acceptData := by kernel_rfl
theorem table5 {W : World} (h : laidMetH Tryz.prog Rows.lineToldRow.laid W) : Lib.VarReads Tryz.prog W "unicode/utf8.acceptRanges" Lib.acceptData := by
  have := Lib.laidMet.reads (n := "unicode/utf8.acceptRanges") (d := Rows.laid_unicode_utf8_acceptRanges) h (.tail _ (.tail _ (.tail _ (.tail _ (.tail _ (.head _))))))
  rwa [data5] at this
theorem gTab6 : Tryz.prog.globalNamed "cleat/operand.shiftNames" = some 5 := by kernel_rfl
theorem gTabType6 : (Tryz.prog.globals[5]?).map (·.type) = some 134 := by kernel_rfl
theorem gCells6 : Tryz.prog.cellsOf 134 = 4 := by kernel_rfl
theorem gElem6 : Tryz.prog.cellsOf 9 = 1 := by kernel_rfl
theorem table6 {W : World} (h : laidMetH Tryz.prog Rows.lineToldRow.laid W) : StrIs Tryz.prog W "cleat/operand.shiftNames" [[108, 115, 108], [108, 115, 114], [97, 115, 114], [114, 111, 114]] :=
  strIs_of_head (rest := _) gTab6 gTabType6 Tryz.underlying134 Tryz.underlying9 gElem6 gCells6 (laidMet.tail (laidMet.tail (laidMet.tail (laidMet.tail (laidMet.tail (laidMet.tail h))))))
theorem gTab7 : Tryz.prog.globalNamed "cleat/line.conds" = some 2 := by kernel_rfl
theorem gTabType7 : (Tryz.prog.globals[2]?).map (·.type) = some 71 := by kernel_rfl
theorem gCells7 : Tryz.prog.cellsOf 71 = 14 := by kernel_rfl
theorem gElem7 : Tryz.prog.cellsOf 9 = 1 := by kernel_rfl
theorem table7 {W : World} (h : laidMetH Tryz.prog Rows.lineToldRow.laid W) : StrIs Tryz.prog W "cleat/line.conds" [[101, 113], [110, 101], [104, 115], [108, 111], [109, 105], [112, 108], [118, 115], [118, 99], [104, 105], [108, 115], [103, 101], [108, 116], [103, 116], [108, 101]] :=
  strIs_of_head (rest := _) gTab7 gTabType7 Tryz.underlying71 Tryz.underlying9 gElem7 gCells7 (laidMet.tail (laidMet.tail (laidMet.tail (laidMet.tail (laidMet.tail (laidMet.tail (laidMet.tail h)))))))
theorem data8 : (Rows.laid_unicode_utf8_first : DataW Unit) = Lib.firstData := Pinned.utf8First_eq
theorem table8 {W : World} (h : laidMetH Tryz.prog Rows.lineToldRow.laid W) : Lib.VarReads Tryz.prog W "unicode/utf8.first" Lib.firstData := by
  have := Lib.laidMet.reads (n := "unicode/utf8.first") (d := Rows.laid_unicode_utf8_first) h (.tail _ (.tail _ (.tail _ (.tail _ (.tail _ (.tail _ (.tail _ (.tail _ (.head _)))))))))
  rwa [data8] at this

set_option maxRecDepth 100000 in
theorem readable : ∀ t ∈ Tryz.f5.params.toList, Tryz.prog.readableRec t = true ∧ t < Tryz.prog.types.size := by
  rw [Tryz.params5]
  intro t ht
  simp only [List.mem_cons, List.mem_nil_iff, or_false] at ht
  rcases ht with rfl
  · exact ⟨by kernel_rfl, of_decide_eq_true (by kernel_rfl)⟩

set_option maxRecDepth 100000 in
theorem contract (H : Type) (enc : TypeId × Value → H) (W : World) (base : Nat) (args : Array Value) (ds gs : List (DataW H)) (before : List MemPlace)
    (hval : ∀ (j : Nat) t v, Tryz.f5.params[j]? = some t → args[j]? = some v → Value.okWide Tryz.prog W .any base t v)
    (hW : DataW.Whole enc Tryz.prog Tryz.f5.params.toList Rows.lineToldSpec.vars false W args.toList ds gs before) (hsz0 : (DataW.weightsEach Tryz.prog (Tryz.f5.params.toList ++ (OpenSpec.ofChange Rows.lineToldSpec).bare.plain.varTypes Tryz.prog) (ds ++ gs)).all (· ≤ reachBytes) = true) (hL : laidMetH Tryz.prog Rows.lineToldRow.laid W) :
    Calls Tryz.prog 5 args W fun e W' => ∃ v, e = .returned v ∧ Rows.lineToldSpec.post enc Tryz.prog Tryz.f5 false true false false W args v W' := by
  have hsz : (DataW.weightsEach Tryz.prog (Tryz.f5.params.toList ++ Rows.lineToldSpec.plain.varTypes Tryz.prog) (ds ++ gs)).all (· ≤ reachBytes) = true := hsz0
  clear hsz0
  have hW' := hW
  have hlt : ∀ x ∈ before, x.block < W.heap.size := fun x hx => hW'.lt x hx
  obtain ⟨p, q, hA0, hV, rfl, hfz, hnd⟩ := hW
  have hA : DataW.TrodAll enc Tryz.prog W 0 (fun _ => true) true Tryz.f5.params.toList args.toList ds p := hA0
  rw [Tryz.params5] at hA hval hsz
  obtain ⟨v0, vs0, d0, ds0, p0, q0, hargs, rfl, rfl, h0, r0⟩ := trodAll_cons hA
  obtain ⟨rfl, rfl, rfl⟩ := trodAll_nil r0
  obtain rfl : args = #[v0] := by cases args; simp_all
  obtain ⟨rfl, rfl⟩ := trodVars_none hV
  obtain ⟨a0, rfl, w0⟩ := _root_.Go.Proofs.YthejefldnpeciaaGreatDoor.open_Inst (hval 0 26 v0 rfl rfl) h0
  clear hA0
  have hT : TabM W := tabN_of (table0 hL) (table1 hL) (table2 hL) (table3 hL) (table4 hL) (table5 hL) (table6 hL) (table7 hL) (table8 hL)
  refine (_root_.Go.Proofs.YthejefldnpeciaaGreatDoor.LineTold_walk W a0 w0 hT).mono fun e W' ⟨he, hb⟩ => ?_
  subst he
  exact ⟨_, rfl, law_post (by kernel_rfl) readable rfl rfl Tryz.underlying4 rfl rfl hW' hb⟩

/-- A world for the witness: the settled one, the table holding what its text lays. -/
noncomputable def laidWorld (os : Os) : World :=
  { (World.holding Tryz.prog os ⟨#[], #[], []⟩) with heap := (((((((((((((((((((World.holding Tryz.prog os ⟨#[], #[], []⟩).heap).modify 9 fun
      | .cells _ t frozen => .cells #[.int .u8 0, .int .u8 1, .int .u8 28, .int .u8 2, .int .u8 29, .int .u8 14, .int .u8 24, .int .u8 3, .int .u8 30, .int .u8 22, .int .u8 20, .int .u8 15, .int .u8 25, .int .u8 17, .int .u8 4, .int .u8 8, .int .u8 31, .int .u8 27, .int .u8 13, .int .u8 23, .int .u8 21, .int .u8 19, .int .u8 16, .int .u8 7, .int .u8 26, .int .u8 12, .int .u8 18, .int .u8 6, .int .u8 11, .int .u8 5, .int .u8 10, .int .u8 9] t frozen
      | o => o)).modify 6 fun
      | .cells _ t frozen => .cells #[.int .u8 0, .int .u8 1, .int .u8 56, .int .u8 2, .int .u8 57, .int .u8 49, .int .u8 28, .int .u8 3, .int .u8 61, .int .u8 58, .int .u8 42, .int .u8 50, .int .u8 38, .int .u8 29, .int .u8 17, .int .u8 4, .int .u8 62, .int .u8 47, .int .u8 59, .int .u8 36, .int .u8 45, .int .u8 43, .int .u8 51, .int .u8 22, .int .u8 53, .int .u8 39, .int .u8 33, .int .u8 30, .int .u8 24, .int .u8 18, .int .u8 12, .int .u8 5, .int .u8 63, .int .u8 55, .int .u8 48, .int .u8 27, .int .u8 60, .int .u8 41, .int .u8 37, .int .u8 16, .int .u8 46, .int .u8 35, .int .u8 44, .int .u8 21, .int .u8 52, .int .u8 32, .int .u8 23, .int .u8 11, .int .u8 54, .int .u8 26, .int .u8 40, .int .u8 15, .int .u8 34, .int .u8 20, .int .u8 31, .int .u8 10, .int .u8 25, .int .u8 14, .int .u8 19, .int .u8 9, .int .u8 13, .int .u8 8, .int .u8 7, .int .u8 6] t frozen
      | o => o)).modify 1 fun
      | .cells _ t frozen => .cells #[.int .i64 0, .int .i64 1, .int .i64 1, .int .i64 1, .int .i64 2, .int .i64 2, .int .i64 2, .int .i64 2, .int .i64 3, .int .i64 3, .int .i64 3, .int .i64 3, .int .i64 4, .int .i64 4, .int .i64 4, .int .i64 4, .int .i64 5, .int .i64 5, .int .i64 5, .int .i64 5, .int .i64 6, .int .i64 6, .int .i64 7, .int .i64 7, .int .i64 8, .int .i64 8, .int .i64 9, .int .i64 10, .int .i64 10, .int .i64 11, .int .i64 11, .int .i64 12, .int .i64 9, .int .i64 9, .int .i64 13, .int .i64 13, .int .i64 13, .int .i64 14, .int .i64 15, .int .i64 16] t frozen
      | o => o)).modify 0 fun
      | .cells _ t frozen => .cells #[.string ⟨#[]⟩, .string ⟨#[109, 111, 118, 122]⟩, .string ⟨#[109, 111, 118, 110]⟩, .string ⟨#[109, 111, 118, 107]⟩, .string ⟨#[97, 100, 100]⟩, .string ⟨#[115, 117, 98]⟩, .string ⟨#[97, 100, 100, 115]⟩, .string ⟨#[115, 117, 98, 115]⟩, .string ⟨#[97, 110, 100]⟩, .string ⟨#[111, 114, 114]⟩, .string ⟨#[101, 111, 114]⟩, .string ⟨#[97, 110, 100, 115]⟩, .string ⟨#[97, 100, 100]⟩, .string ⟨#[115, 117, 98]⟩, .string ⟨#[97, 100, 100, 115]⟩, .string ⟨#[115, 117, 98, 115]⟩, .string ⟨#[97, 110, 100]⟩, .string ⟨#[111, 114, 114]⟩, .string ⟨#[101, 111, 114]⟩, .string ⟨#[97, 110, 100, 115]⟩, .string ⟨#[109, 97, 100, 100]⟩, .string ⟨#[109, 115, 117, 98]⟩, .string ⟨#[108, 100, 114]⟩, .string ⟨#[115, 116, 114]⟩, .string ⟨#[108, 100, 114, 98]⟩, .string ⟨#[115, 116, 114, 98]⟩, .string ⟨#[108, 100, 114]⟩, .string ⟨#[97, 100, 114]⟩, .string ⟨#[97, 100, 114, 112]⟩, .string ⟨#[98]⟩, .string ⟨#[98, 108]⟩, .string ⟨#[98]⟩, .string ⟨#[99, 98, 122]⟩, .string ⟨#[99, 98, 110, 122]⟩, .string ⟨#[98, 114]⟩, .string ⟨#[98, 108, 114]⟩, .string ⟨#[114, 101, 116]⟩, .string ⟨#[115, 118, 99]⟩, .string ⟨#[110, 111, 112]⟩, .string ⟨#[99, 115, 101, 108]⟩] t frozen
      | o => o)).modify 8 fun
      | .cells _ t frozen => .cells #[.int .u64 1, .int .u64 10, .int .u64 100, .int .u64 1000, .int .u64 10000, .int .u64 100000, .int .u64 1000000, .int .u64 10000000, .int .u64 100000000, .int .u64 1000000000, .int .u64 10000000000, .int .u64 100000000000, .int .u64 1000000000000, .int .u64 10000000000000, .int .u64 100000000000000, .int .u64 1000000000000000, .int .u64 10000000000000000, .int .u64 100000000000000000, .int .u64 1000000000000000000, .int .u64 10000000000000000000] t frozen
      | o => o)).modify 4 fun
      | .cells _ t frozen => .cells #[.int .u8 128, .int .u8 191, .int .u8 160, .int .u8 191, .int .u8 128, .int .u8 159, .int .u8 144, .int .u8 191, .int .u8 128, .int .u8 143, .int .u8 0, .int .u8 0, .int .u8 0, .int .u8 0, .int .u8 0, .int .u8 0, .int .u8 0, .int .u8 0, .int .u8 0, .int .u8 0, .int .u8 0, .int .u8 0, .int .u8 0, .int .u8 0, .int .u8 0, .int .u8 0, .int .u8 0, .int .u8 0, .int .u8 0, .int .u8 0, .int .u8 0, .int .u8 0] t frozen
      | o => o)).modify 5 fun
      | .cells _ t frozen => .cells #[.string ⟨#[108, 115, 108]⟩, .string ⟨#[108, 115, 114]⟩, .string ⟨#[97, 115, 114]⟩, .string ⟨#[114, 111, 114]⟩] t frozen
      | o => o)).modify 2 fun
      | .cells _ t frozen => .cells #[.string ⟨#[101, 113]⟩, .string ⟨#[110, 101]⟩, .string ⟨#[104, 115]⟩, .string ⟨#[108, 111]⟩, .string ⟨#[109, 105]⟩, .string ⟨#[112, 108]⟩, .string ⟨#[118, 115]⟩, .string ⟨#[118, 99]⟩, .string ⟨#[104, 105]⟩, .string ⟨#[108, 115]⟩, .string ⟨#[103, 101]⟩, .string ⟨#[108, 116]⟩, .string ⟨#[103, 116]⟩, .string ⟨#[108, 101]⟩] t frozen
      | o => o)).modify 3 fun
      | .cells _ t frozen => .cells ((Go.Pinned.utf8FirstZ.map fun (n : Nat) => Value.int .u8 (n : Int)).toArray) t frozen
      | o => o) }
theorem laid_met (os : Os) : laidMet Tryz.prog Rows.lineToldRow.laid ((laidWorld os).forCall (fun _ _ => 0) ⟨#[], #[.agg #[.int .i64 0, .int .i64 0, .int .i64 0, .int .i64 0, .int .i64 0, .int .i64 0, .int .u64 0, .int .i64 0, .int .i64 0, .int .i64 0]], []⟩).memory :=
  laidMet_of_run' 8 (by kernel_rfl) (by kernel_rfl)
theorem reads (os : Os) {H : Type} (enc : TypeId × Value → H) : ∃ places, DataW.whole enc Tryz.prog ((laidWorld os).forCall (fun _ _ => 0) ⟨#[], #[.agg #[.int .i64 0, .int .i64 0, .int .i64 0, .int .i64 0, .int .i64 0, .int .i64 0, .int .u64 0, .int .i64 0, .int .i64 0, .int .i64 0]], []⟩).memory Tryz.f5.params.toList Rows.lineToldSpec.vars false (#[.agg #[.int .i64 0, .int .i64 0, .int .i64 0, .int .i64 0, .int .i64 0, .int .i64 0, .int .u64 0, .int .i64 0, .int .i64 0, .int .i64 0]] : Array Value).toList 8 = some ([.agg [.lit (.int .i64 0), .lit (.int .i64 0), .lit (.int .i64 0), .lit (.int .i64 0), .lit (.int .i64 0), .lit (.int .i64 0), .lit (.int .u64 0), .lit (.int .i64 0), .lit (.int .i64 0), .lit (.int .i64 0)]], [], places) :=
  ⟨[], by kernel_rfl⟩

set_option maxRecDepth 100000 in
theorem lifted (os : Os) (started : os.Started) (H : Type) (enc : TypeId × Value → H) (F : Stop.Interp) :
    ReturnsInHanded {} Tryz.checked os 5 .any ((OpenSpec.ofChange Rows.lineToldSpec).preRow enc Tryz.prog Tryz.f5 Rows.lineToldRow.domain false Rows.lineToldRow.laid) (((OpenSpec.ofChange Rows.lineToldSpec).at F).post enc Tryz.prog Tryz.f5 false true false false) := by
  obtain ⟨places, hx⟩ := reads os enc
  refine returnsInHanded_of_row (C := Tryz.checked) (s := OpenSpec.ofChange Rows.lineToldSpec) own started (by kernel_rfl) Tryz.func5
    (witness_row_at (enc := enc) (C := Tryz.checked) false (laidWorld os) #[.agg #[.int .i64 0, .int .i64 0, .int .i64 0, .int .i64 0, .int .i64 0, .int .i64 0, .int .u64 0, .int .i64 0, .int .i64 0, .int .i64 0]] rfl (by kernel_rfl) (by kernel_rfl) (by kernel_rfl)
      (OpenSpec.preRow_of_cond 8 hx (by kernel_rfl) (fun k hk => by cases hk) (by kernel_rfl) (laid_met os))) ?_
  intro W base args ds gs before hval hW _ _ hsz hL _ _
  exact contract H enc W base args ds gs before hval hW hsz hL

theorem said : Rows.LineToldSaid :=
  OpenClaim.holds_of_cond 5 Tryz.f5 rfl rfl rfl rfl rfl rfl rfl ⟨rfl, rfl, rfl, rfl, rfl⟩ rfl rfl rfl rfl rfl (by kernel_rfl) Tryz.func5 (by kernel_rfl)
    (of_decide_eq_true (by kernel_rfl)) (by unfold Func.isWrapper; first | (rw [if_pos (by decide +kernel)]; kernel_rfl) | (rw [if_neg (by decide +kernel)]; exact ⟨rfl, rfl⟩))
    (fun os started H enc _ F => by rw [OpenClaim.pre_eq_preRow]; exact lifted os started H enc F)

/-- No parameter wants a stand-in; the program's own looks are off. -/
theorem plain (f : FuncId) (fn : Func) (hf : Tryz.pinned.checked.prog.funcNamed "cleat/cleatlaw12.LineTold" = some f) (hfn : Tryz.pinned.checked.prog.funcs[f]? = some fn) :
    true = Tryz.pinned.checked.prog.looks [] ∧ ∀ (j : Nat) t, fn.params[j]? = some t → Tryz.pinned.checked.prog.wantsStandIn t = false := by
  obtain rfl : f = 5 := Option.some.inj ((show Tryz.prog.funcNamed "cleat/cleatlaw12.LineTold" = some 5 by kernel_rfl).symm.trans hf) |>.symm
  obtain rfl : fn = Tryz.f5 := (Option.some.inj (Tryz.func5.symm.trans hfn)).symm
  refine ⟨by kernel_rfl, fun j t ht => ?_⟩
  rw [Tryz.params5] at ht
  have hm := Array.mem_of_getElem? ht
  simp only [List.mem_toArray, List.mem_cons, List.mem_nil_iff, or_false] at hm
  rcases hm with rfl
  · exact (show Tryz.prog.wantsStandIn 26 = false by kernel_rfl)

theorem card : Rows.LineToldCardSaid :=
  Claim7.holds_tied_plain_at .later [] _ _ _ _ said (fun _ h => by cases h) (by kernel_rfl) (fun _ h => by cases h) lineTold_row_tie rfl ⟨rfl, rfl⟩ (by kernel_rfl) rfl plain (by kernel_rfl)
end Go.Proofs.YthejefldnpeciaaGreatDoor.lineTold
