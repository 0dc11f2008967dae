/- How arguments that are rows of blocks, and options, read. -/
import Derived.Test.YtpjidjanhonikaaG3
import Derived.Lib.SmallJoins
namespace Go.Proofs.Ytpjidjanhonikaa
set_option linter.unusedVariables false
set_option linter.unusedSimpArgs false
open Go.ChangeShapes Go.WideShapes Go.Deep Go.RowKit
theorem open_Blocks {H : Type} {encH : TypeId × Value → H} {W : World} {base : Nat} {v : Value} {d : DataW H} {p : List MemPlace}
    (hv : Value.okWide Try.prog W .any base 25 v) (h : DataW.Trod encH Try.prog W 0 (fun _ => true) true 25 v d p) :
    ∃ (a : Option Addr) (n c : Nat) (l : List Bk), v = .slice a n c ∧ n ≤ maxLen ∧ (∀ x ∈ l, bkB x) ∧ SL encB 2 W W.heap.size a n l ∧ (a = none → n = 0 ∧ c = 0) ∧ ∀ R bt : Nat, (∀ el sp, d = .slice el sp → (el.length + sp.length) * bt ≤ R) → n * bt ≤ R := by
  refine open_SL (enc := encB) bkB (0, 0) Try.underlying25 Try.underlying34 (by kernel_rfl) (by kernel_rfl) rfl (by decide) encB_len ?_ hv h
  intro cell m hf
  obtain ⟨v0, y0, c0, t0⟩ := hf 0 _ rfl
  obtain ⟨v1, y1, c1, t1⟩ := hf 1 _ rfl
  obtain ⟨x0, e0, -, w0⟩ := DataW.trod_int Try.underlying3 t0
  obtain ⟨x1, e1, -, w1⟩ := DataW.trod_int Try.underlying3 t1
  simp only [List.cons.injEq, and_true] at e0 e1
  subst e0 e1
  refine ⟨(x0, x1), ⟨bounds_i64 w0, bounds_i64 w1⟩, fun j hj => ?_⟩
  have : j = 0 ∨ j = 1 := by omega
  rcases this with rfl | rfl
  · exact c0
  · exact c1
theorem open_Options {H : Type} {encH : TypeId × Value → H} {W : World} {base : Nat} {v : Value} {d : DataW H} {p : List MemPlace}
    (hv : Value.okWide Try.prog W .any base 24 v) (h : DataW.Trod encH Try.prog W 0 (fun _ => true) true 24 v d p) :
    ∃ t d s r : Int, v = .agg #[.int .u64 t, .int .u64 d, .int .u64 s, .int .i64 r] ∧ (0 ≤ t ∧ t < 18446744073709551616) ∧ (0 ≤ d ∧ d < 18446744073709551616) ∧ (0 ≤ s ∧ s < 18446744073709551616) ∧ (-9223372036854775808 ≤ r ∧ r ≤ 9223372036854775807) := by
  obtain ⟨c0, c1, c2, c3, y0, y1, y2, y3, m, rfl, -, -, h0, h1, h2, h3⟩ := Go.Joins.open_agg4 Try.underlying24 (by kernel_rfl) (by kernel_rfl) hv h
  obtain ⟨x0, e0, -, w0⟩ := DataW.trod_int Try.underlying22 h0
  obtain ⟨x1, e1, -, w1⟩ := DataW.trod_int Try.underlying22 h1
  obtain ⟨x2, e2, -, w2⟩ := DataW.trod_int Try.underlying22 h2
  obtain ⟨x3, e3, -, w3⟩ := DataW.trod_int Try.underlying3 h3
  simp only [List.cons.injEq, and_true] at e0 e1 e2 e3
  subst e0 e1 e2 e3
  have b0 := bounds_u64 w0
  have b1 := bounds_u64 w1
  have b2 := bounds_u64 w2
  exact ⟨x0, x1, x2, x3, rfl, by omega, by omega, by omega, bounds_i64 w3⟩
end Go.Proofs.Ytpjidjanhonikaa
