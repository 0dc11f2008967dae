/- pool: literals, the map that is keyed by them, and what a pool's memory holds. -/
import Derived.Test.YtbicmnbmkaffeaaS
import Derived.Test.YtbicmnbmkaffeaaM0
import Derived.DeepKeys4
import Derived.Maps.Own
import Derived.Maps.OwnOps
import Derived.Laws.AppendOwnNone
namespace Go.Proofs.Ytbicmnbmkaffeaa
set_option linter.unusedVariables false
set_option linter.unusedSimpArgs false
open Go.ChangeShapes Go.WideShapes Go.Deep Go.RowKit

structure Lt where
  sym : ByteArray
  add : Int
  v : Int
abbrev litV (x : Lt) : Value := .agg #[.string x.sym, .int .i64 x.add, .int .u64 x.v]
def litC (x : Lt) : List Value := [.string x.sym, .int .i64 x.add, .int .u64 x.v]
structure GoodL (x : Lt) : Prop where
  sym : x.sym.size ≤ maxLen
  add : -9223372036854775808 ≤ x.add ∧ x.add ≤ 9223372036854775807
  v : 0 ≤ x.v ∧ x.v < 18446744073709551616
theorem litV_inj {x y : Lt} (h : litV x = litV y) : x = y := by
  obtain ⟨a, b, c⟩ := x
  obtain ⟨d, e, f⟩ := y
  simp only [litV, Value.agg.injEq, Array.mk.injEq, List.cons.injEq, Value.string.injEq, Value.int.injEq, true_and, and_true] at h
  obtain ⟨rfl, rfl, rfl⟩ := h
  rfl
theorem litC_len (x : Lt) : (litC x).length = 3 := rfl
theorem lit_under : ∃ fs, Try.prog.underlying 31 = some (.struct fs) := ⟨_, Try.underlying31⟩
theorem litKey : WideMaps.KeyLaw Try.prog 31 :=
  deep_law_laid (by kernel_rfl) (m := 3) (by decide) (of_decide_eq_true (by kernel_rfl)) (by kernel_rfl) (by kernel_rfl)
theorem keyLits_lit (d : Nat) (x : Lt) (hx : GoodL x) : Try.prog.keyLits (d + 2) 31 [.string x.sym, .int .i64 x.add, .int .u64 x.v] = some [.string x.sym.data.toList, .int .i64 x.add, .int .u64 x.v] := by
  have h1 : (Lit.int .i64 x.add).wf = true := by have := hx.add; simp [Lit.wf, IntKind.min, IntKind.max, IntKind.bits, IntKind.signed]; omega
  have h2 : (Lit.int .u64 x.v).wf = true := by have := hx.v; simp [Lit.wf, IntKind.min, IntKind.max, IntKind.bits, IntKind.signed]; omega
  have c0 : Try.prog.cellsOf 31 = 3 := by kernel_rfl
  have c1 : Try.prog.cellsOf 9 = 1 := by kernel_rfl
  have c2 : Try.prog.cellsOf 3 = 1 := by kernel_rfl
  have c3 : Try.prog.cellsOf 22 = 1 := by kernel_rfl
  simp [Program.keyLits, Try.underlying31, Try.underlying9, Try.underlying3, Try.underlying22, c0, c1, c2, c3, h1, h2, hx.sym]
end Go.Proofs.Ytbicmnbmkaffeaa
