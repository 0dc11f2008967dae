/- How an argument that is an instruction reads. -/
import Derived.Test.YtkcgnmicaigjfaaDoorkI3
import Derived.Lib.SmallJoins
import Derived.OpenShut
import Derived.WideShapes
import Derived.ChangeSame
namespace Go.Proofs.YtkcgnmicaigjfaaDoor
set_option linter.unusedVariables false
set_option linter.unusedSimpArgs false
open Go.ChangeShapes Go.WideShapes Go.Deep Go.RowKit

theorem open_one {H : Type} {encH : TypeId × Value → H} {P : Program} {W : World} {base : Nat} {spare : Nat → Bool} {held : Bool} {v : Value} {d : DataW H} {p : List MemPlace} {t : TypeId} {fs : Array Field}
    (ht : P.underlying t = some (.struct fs)) (hone : oneCellFields P fs = true) (hC : P.cellsOf t = fs.size) (hv : Value.okWide P W .any base t v) (h : DataW.Trod encH P W 0 spare held t v d p) :
    ∃ (cs : Array Value) (n : Nat), v = .agg cs ∧ cs.size = fs.size ∧ ∀ (j : Nat) (f : Field), fs[j]? = some f → ∃ (u : Value) (y : DataW H × List MemPlace), cs[j]? = some u ∧ DataW.trod encH P W 0 spare held n f.type [u] = some y := by
  obtain ⟨cs, rfl, hsz⟩ := okWide_struct ht hv
  obtain ⟨fuel, hf⟩ := h
  obtain ⟨ys, n, _, _, hlen, hyl, hfs⟩ := DataW.trod_struct ht hf
  refine ⟨cs, n, rfl, hsz.trans hC, fun j f hj => ?_⟩
  obtain ⟨ho, hk⟩ := hone_of hone j f hj
  have hjl : j < fs.size := (Array.getElem?_eq_some_iff.1 hj).1
  have hjc : j < cs.size := by rw [hsz, hC]; exact hjl
  have h1 := hfs j f hj
  rw [ho, hk] at h1
  have e1 : ((Value.cells (.agg cs)).toList.drop j).take 1 = [cs[j]] := by
    show (cs.toList.drop j).take 1 = _
    rw [List.drop_eq_getElem_cons (by simpa using hjc)]
    rfl
  rw [e1] at h1
  have hys : ys[j]? = some (ys[j]'(by omega)) := List.getElem?_eq_getElem (by omega)
  exact ⟨cs[j], ys[j]'(by omega), Array.getElem?_eq_getElem hjc, h1.trans hys⟩

theorem ten_cells {cs : Array Value} {c0 c1 c2 c3 c4 c5 c6 c7 c8 c9 : Value} (hs : cs.size = 10) (h0 : cs[0]? = some c0) (h1 : cs[1]? = some c1) (h2 : cs[2]? = some c2) (h3 : cs[3]? = some c3) (h4 : cs[4]? = some c4) (h5 : cs[5]? = some c5)
    (h6 : cs[6]? = some c6) (h7 : cs[7]? = some c7) (h8 : cs[8]? = some c8) (h9 : cs[9]? = some c9) : cs = #[c0, c1, c2, c3, c4, c5, c6, c7, c8, c9] := by
  refine Array.ext_getElem? fun j => ?_
  match j with
  | 0 => exact h0 | 1 => exact h1 | 2 => exact h2 | 3 => exact h3 | 4 => exact h4 | 5 => exact h5 | 6 => exact h6 | 7 => exact h7 | 8 => exact h8 | 9 => exact h9
  | j + 10 => rw [Array.getElem?_eq_none (by omega), Array.getElem?_eq_none (by simp)]
set_option maxRecDepth 100000 in
theorem open_Inst {H : Type} {encH : TypeId × Value → H} {W : World} {base : Nat} {v : Value} {d : DataW H} {p : List MemPlace}
    (hv : Value.okWide Tryd.prog W .any base 24 v) (h : DataW.Trod encH Tryd.prog W 0 (fun _ => true) true 24 v d p) : ∃ i : In, v = inV i ∧ InB i := by
  obtain ⟨cs, n, rfl, hs, hf⟩ := open_one Tryd.underlying24 (by kernel_rfl) (by kernel_rfl) hv h
  obtain ⟨v0, y0, c0, t0⟩ := hf 0 _ rfl
  obtain ⟨v1, y1, c1, t1⟩ := hf 1 _ rfl
  obtain ⟨v2, y2, c2, t2⟩ := hf 2 _ rfl
  obtain ⟨v3, y3, c3, t3⟩ := hf 3 _ rfl
  obtain ⟨v4, y4, c4, t4⟩ := hf 4 _ rfl
  obtain ⟨v5, y5, c5, t5⟩ := hf 5 _ rfl
  obtain ⟨v6, y6, c6, t6⟩ := hf 6 _ rfl
  obtain ⟨v7, y7, c7, t7⟩ := hf 7 _ rfl
  obtain ⟨v8, y8, c8, t8⟩ := hf 8 _ rfl
  obtain ⟨v9, y9, c9, t9⟩ := hf 9 _ rfl
  obtain ⟨x0, e0, -, w0⟩ := DataW.trod_int Tryd.underlying3 t0
  obtain ⟨x1, e1, -, w1⟩ := DataW.trod_int Tryd.underlying3 t1
  obtain ⟨x2, e2, -, w2⟩ := DataW.trod_int Tryd.underlying3 t2
  obtain ⟨x3, e3, -, w3⟩ := DataW.trod_int Tryd.underlying3 t3
  obtain ⟨x4, e4, -, w4⟩ := DataW.trod_int Tryd.underlying3 t4
  obtain ⟨x5, e5, -, w5⟩ := DataW.trod_int Tryd.underlying3 t5
  obtain ⟨x6, e6, -, w6⟩ := DataW.trod_int Tryd.underlying22 t6
  obtain ⟨x7, e7, -, w7⟩ := DataW.trod_int Tryd.underlying3 t7
  obtain ⟨x8, e8, -, w8⟩ := DataW.trod_int Tryd.underlying3 t8
  obtain ⟨x9, e9, -, w9⟩ := DataW.trod_int Tryd.underlying3 t9
  simp only [List.cons.injEq, and_true] at e0 e1 e2 e3 e4 e5 e6 e7 e8 e9
  subst e0 e1 e2 e3 e4 e5 e6 e7 e8 e9
  have hcs := ten_cells hs c0 c1 c2 c3 c4 c5 c6 c7 c8 c9
  have b6 := bounds_u64 w6
  refine ⟨⟨x0, x1, x2, x3, x4, x5, x6, x7, x8, x9⟩, by rw [hcs], ⟨bounds_i64 w0, bounds_i64 w1, bounds_i64 w2, bounds_i64 w3, bounds_i64 w4, bounds_i64 w5, by simp only; omega, bounds_i64 w7, bounds_i64 w8, bounds_i64 w9⟩⟩
end Go.Proofs.YtkcgnmicaigjfaaDoor
