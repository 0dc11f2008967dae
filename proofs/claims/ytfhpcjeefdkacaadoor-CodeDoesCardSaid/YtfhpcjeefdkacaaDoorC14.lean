/- The law's example, and the laws of code that have no reference, walked. -/
import Derived.Test.YtfhpcjeefdkacaaDoorC13
import Derived.Deep.RegionHeld3
namespace Go.Proofs.YtfhpcjeefdkacaaDoor
set_option linter.unusedVariables false
set_option linter.unusedSimpArgs false
open Go.RowKit

abbrev iNop : In := ⟨38, 0, 0, 0, 0, 0, 0, 0, 0, 0⟩
abbrev iAdd : In := ⟨4, 1, 2, 0, 0, 3, 0, 0, 0, 0⟩
abbrev iRet : In := ⟨36, 0, 30, 0, 0, 0, 0, 0, 0, 0⟩
theorem enNop : encP iNop = (3573751839, 0) := by decide +kernel
theorem enAdd : encP iAdd = (2432699457, 0) := by decide +kernel
theorem enZ : encP inZ = (0, 1) := by decide +kernel
theorem isRet : isI iRet = true := by decide +kernel
theorem encRet : encW iRet = 3596551104 := by decide +kernel
theorem deRet : dI 3596551104 = (iRet, 0) := by
  have := (dI_enc isRet (by decide)).2.2
  rwa [encRet] at this
theorem opZero : opW 0 = 0 := by decide +kernel
theorem deZero : dI 0 = (inZ, 11) := by
  have h : isI (readW 0) = false := by
    cases hI : isI (readW 0)
    · rfl
    · have := code_op hI
      rw [readW_op, opZero] at this; omega
  unfold dI
  rw [h, if_neg (by decide)]
theorem opNop : opW 3573751839 = 38 := by decide +kernel
theorem inb_lit (i : In) (h : (decide (0 ≤ i.op) && decide (i.op ≤ 100) && decide (0 ≤ i.d) && decide (i.d ≤ 100) && decide (0 ≤ i.n) && decide (i.n ≤ 100) && decide (0 ≤ i.imm) && decide (i.imm ≤ 100)) = true) (hm : i.m = 0) (ha : i.a = 0) (h6 : i.mask = 0) (h7 : i.shift = 0) (h8 : i.amount = 0) (h9 : i.cond = 0) : InB i := by
  simp only [Bool.and_eq_true, decide_eq_true_eq] at h
  refine ⟨?_, ?_, ?_, ?_, ?_, ?_, ?_, ?_, ?_, ?_⟩ <;> (try unfold i64B) <;> omega

set_option maxRecDepth 100000 in
set_option maxHeartbeats 8000000 in
theorem coded_any (w : World) (hw : Tab6 w) : Calls Tryd.prog 14 #[] w (RetB (.bool true) w) := by
  have HT := Lib.hid hw
  clear hw
  have EN : Hid (∀ w, Tab6 w → Calls Tryd.prog 8 #[.agg #[.int .i64 38, .int .i64 0, .int .i64 0, .int .i64 0, .int .i64 0, .int .i64 0, .int .u64 0, .int .i64 0, .int .i64 0, .int .i64 0]] w (RetB (.tuple #[.int .u32 3573751839, .int .i64 0]) w)) := Lib.hid fun w h => by have := CEncode_any iNop w h (inb_lit _ rfl rfl rfl rfl rfl rfl rfl); rwa [enNop] at this
  have EA : Hid (∀ w, Tab6 w → Calls Tryd.prog 8 #[.agg #[.int .i64 4, .int .i64 1, .int .i64 2, .int .i64 0, .int .i64 0, .int .i64 3, .int .u64 0, .int .i64 0, .int .i64 0, .int .i64 0]] w (RetB (.tuple #[.int .u32 2432699457, .int .i64 0]) w)) := Lib.hid fun w h => by have := CEncode_any iAdd w h (inb_lit _ rfl rfl rfl rfl rfl rfl rfl); rwa [enAdd] at this
  have EZ : Hid (∀ w, Tab6 w → Calls Tryd.prog 8 #[.agg #[.int .i64 0, .int .i64 0, .int .i64 0, .int .i64 0, .int .i64 0, .int .i64 0, .int .u64 0, .int .i64 0, .int .i64 0, .int .i64 0]] w (RetB (.tuple #[.int .u32 0, .int .i64 1]) w)) := Lib.hid fun w h => by have := CEncode_any inZ w h (inb_lit _ rfl rfl rfl rfl rfl rfl rfl); rwa [enZ] at this
  have DR : Hid (∀ w, Tab6 w → Calls Tryd.prog 10 #[.int .u32 3596551104] w (RetB (.tuple #[.agg #[.int .i64 36, .int .i64 0, .int .i64 30, .int .i64 0, .int .i64 0, .int .i64 0, .int .u64 0, .int .i64 0, .int .i64 0, .int .i64 0], .int .i64 0]) w)) := Lib.hid fun w h => by have := CDecode_any 3596551104 (by decide) w h; rwa [deRet] at this
  have DZ : Hid (∀ w, Tab6 w → Calls Tryd.prog 10 #[.int .u32 0] w (RetB (.tuple #[.agg #[.int .i64 0, .int .i64 0, .int .i64 0, .int .i64 0, .int .i64 0, .int .i64 0, .int .u64 0, .int .i64 0, .int .i64 0, .int .i64 0], .int .i64 11]) w)) := Lib.hid fun w h => by have := CDecode_any 0 (by decide) w h; rwa [deZero] at this
  have ON : Hid (∀ w, Tab6 w → Calls Tryd.prog 15 #[.int .u32 3573751839] w (RetD (.int .i64 38) w)) := Lib.hid fun w h => by have := Opcode_any 3573751839 (by decide) w h; rwa [opNop] at this
  have HB := Lib.hid (Below.refl w.heap.size w)
  go_enter Tryd.func14, Tryd.ntmps14
  go_wp2_with (first
    | (go_at_call 8; ((with_reducible refine (EN.out _ (HT.out.below HB.out)).mono ?_); rintro e w1 ⟨rfl, hb⟩; replace HB := Lib.hid (after HB.out hb); clear hb))
    | (go_at_call 8; ((with_reducible refine (EA.out _ (HT.out.below HB.out)).mono ?_); rintro e w2 ⟨rfl, hb⟩; replace HB := Lib.hid (after HB.out hb); clear hb))
    | (go_at_call 10; ((with_reducible refine (DR.out _ (HT.out.below HB.out)).mono ?_); rintro e w3 ⟨rfl, hb⟩; replace HB := Lib.hid (after HB.out hb); clear hb))
    | (go_at_call 10; ((with_reducible refine (DZ.out _ (HT.out.below (bel_alloc HB.out _))).mono ?_); rintro e w4 ⟨rfl, hb⟩; have HB5 := Lib.hid hb; replace HB := Lib.hid (after (bel_alloc HB.out _) hb); clear hb))
    | (go_at_call 8; ((with_reducible refine (EZ.out _ (HT.out.below (bel_alloc HB.out _))).mono ?_); rintro e w5 ⟨rfl, hb⟩; replace HB5 := Lib.hid (after (bel_alloc HB5.out _) hb); replace HB := Lib.hid (after (bel_alloc HB.out _) hb); clear hb; have hX := (HB5.out.block w3.heap.size (by simp)).trans (MapKept.heap_alloc w3 _).1; have x0 : w5.cell? ⟨w3.heap.size, 0, none⟩ = some (.int .i64 36) := cel hX; have x1 : w5.cell? ⟨w3.heap.size, 1, none⟩ = some (.int .i64 0) := cel hX; have x2 : w5.cell? ⟨w3.heap.size, 2, none⟩ = some (.int .i64 30) := cel hX; have x3 : w5.cell? ⟨w3.heap.size, 3, none⟩ = some (.int .i64 0) := cel hX; have x4 : w5.cell? ⟨w3.heap.size, 4, none⟩ = some (.int .i64 0) := cel hX; have x5 : w5.cell? ⟨w3.heap.size, 5, none⟩ = some (.int .i64 0) := cel hX; have x6 : w5.cell? ⟨w3.heap.size, 6, none⟩ = some (.int .u64 0) := cel hX; have x7 : w5.cell? ⟨w3.heap.size, 7, none⟩ = some (.int .i64 0) := cel hX; have x8 : w5.cell? ⟨w3.heap.size, 8, none⟩ = some (.int .i64 0) := cel hX; have x9 : w5.cell? ⟨w3.heap.size, 9, none⟩ = some (.int .i64 0) := cel hX))
    | (go_at_call 15; ((with_reducible refine (ON.out _ (HT.out.below HB.out)).mono ?_); rintro e w' ⟨rfl, m, rfl⟩)))
  go_ret
  exact retB_bool rfl (below_drewN HB.out _)
end Go.Proofs.YtfhpcjeefdkacaaDoor
