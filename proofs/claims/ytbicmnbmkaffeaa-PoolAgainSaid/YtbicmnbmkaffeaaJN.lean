/- How arguments that are needs read. -/
import Derived.Test.YtbicmnbmkaffeaaPQ6
import Derived.Test.YtbicmnbmkaffeaaS
import Derived.Lib.SmallJoins
import Derived.OpenShut
import Derived.WideShapes
import Derived.ChangeSame
namespace Go.Proofs.Ytbicmnbmkaffeaa
set_option linter.unusedVariables false
set_option linter.unusedSimpArgs false
open Go.ChangeShapes Go.WideShapes Go.Deep Go.RowKit

theorem open_one {H : Type} {encH : TypeId × Value → H} {P : Program} {W : World} {base : Nat} {spare : Nat → Bool} {held : Bool} {v : Value} {d : DataW H} {p : List MemPlace} {t : TypeId} {fs : Array Field}
    (ht : P.underlying t = some (.struct fs)) (hone : oneCellFields P fs = true) (hC : P.cellsOf t = fs.size) (hv : Value.okWide P W .any base t v) (h : DataW.Trod encH P W 0 spare held t v d p) :
    ∃ (cs : Array Value) (n : Nat), v = .agg cs ∧ cs.size = fs.size ∧ ∀ (j : Nat) (f : Field), fs[j]? = some f → ∃ (u : Value) (y : DataW H × List MemPlace), cs[j]? = some u ∧ DataW.trod encH P W 0 spare held n f.type [u] = some y := by
  obtain ⟨cs, rfl, hsz⟩ := okWide_struct ht hv
  obtain ⟨fuel, hf⟩ := h
  obtain ⟨ys, n, _, _, hlen, hyl, hfs⟩ := DataW.trod_struct ht hf
  refine ⟨cs, n, rfl, hsz.trans hC, fun j f hj => ?_⟩
  obtain ⟨ho, hk⟩ := hone_of hone j f hj
  have hjl : j < fs.size := (Array.getElem?_eq_some_iff.1 hj).1
  have hjc : j < cs.size := by rw [hsz, hC]; exact hjl
  have h1 := hfs j f hj
  rw [ho, hk] at h1
  have e1 : ((Value.cells (.agg cs)).toList.drop j).take 1 = [cs[j]] := by
    show (cs.toList.drop j).take 1 = _
    rw [List.drop_eq_getElem_cons (by simpa using hjc)]
    rfl
  rw [e1] at h1
  have hys : ys[j]? = some (ys[j]'(by omega)) := List.getElem?_eq_getElem (by omega)
  exact ⟨cs[j], ys[j]'(by omega), Array.getElem?_eq_getElem hjc, h1.trans hys⟩
theorem five_cells {cs : Array Value} {c0 c1 c2 c3 c4 : Value} (hs : cs.size = 5) (h0 : cs[0]? = some c0) (h1 : cs[1]? = some c1) (h2 : cs[2]? = some c2) (h3 : cs[3]? = some c3) (h4 : cs[4]? = some c4) : cs = #[c0, c1, c2, c3, c4] := by
  refine Array.ext_getElem? fun j => ?_
  match j with
  | 0 => exact h0 | 1 => exact h1 | 2 => exact h2 | 3 => exact h3 | 4 => exact h4
  | j + 5 => rw [Array.getElem?_eq_none (by omega), Array.getElem?_eq_none (by simp)]
/-- Five fields that read: a need. -/
theorem need_of {H : Type} {encH : TypeId × Value → H} {W : World} {m : Nat} {v0 v1 v2 v3 v4 : Value} {y0 y1 y2 y3 y4 : DataW H × List MemPlace}
    (t0 : DataW.trod encH Try.prog W 0 (fun _ => true) true m 3 [v0] = some y0) (t1 : DataW.trod encH Try.prog W 0 (fun _ => true) true m 9 [v1] = some y1) (t2 : DataW.trod encH Try.prog W 0 (fun _ => true) true m 3 [v2] = some y2)
    (t3 : DataW.trod encH Try.prog W 0 (fun _ => true) true m 4 [v3] = some y3) (t4 : DataW.trod encH Try.prog W 0 (fun _ => true) true m 22 [v4] = some y4) :
    ∃ n : Nd, GoodN n ∧ v0 = .int .i64 n.kind ∧ v1 = .string n.sym ∧ v2 = .int .i64 n.add ∧ v3 = .bool n.minus ∧ v4 = .int .u64 n.v := by
  obtain ⟨x0, e0, -, w0⟩ := DataW.trod_int Try.underlying3 t0
  obtain ⟨x1, e1, -, w1⟩ := DataW.trod_string Try.underlying9 t1
  obtain ⟨x2, e2, -, w2⟩ := DataW.trod_int Try.underlying3 t2
  obtain ⟨x3, e3, -⟩ := DataW.trod_bool Try.underlying4 t3
  obtain ⟨x4, e4, -, w4⟩ := DataW.trod_int Try.underlying22 t4
  simp only [List.cons.injEq, and_true] at e0 e1 e2 e3 e4
  have b4 := bounds_u64 w4
  exact ⟨⟨x0, x1, x2, x3, x4⟩, ⟨bounds_i64 w0, w1, bounds_i64 w2, by simp only; omega⟩, e0, e1, e2, e3, e4⟩
theorem open_Need {H : Type} {encH : TypeId × Value → H} {W : World} {base : Nat} {v : Value} {d : DataW H} {p : List MemPlace}
    (hv : Value.okWide Try.prog W .any base 24 v) (h : DataW.Trod encH Try.prog W 0 (fun _ => true) true 24 v d p) : ∃ n : Nd, v = ndV n ∧ GoodN n := by
  obtain ⟨cs, n, rfl, hs, hf⟩ := open_one Try.underlying24 (by kernel_rfl) (by kernel_rfl) hv h
  obtain ⟨v0, y0, c0, t0⟩ := hf 0 _ rfl
  obtain ⟨v1, y1, c1, t1⟩ := hf 1 _ rfl
  obtain ⟨v2, y2, c2, t2⟩ := hf 2 _ rfl
  obtain ⟨v3, y3, c3, t3⟩ := hf 3 _ rfl
  obtain ⟨v4, y4, c4, t4⟩ := hf 4 _ rfl
  obtain ⟨x, hx, rfl, rfl, rfl, rfl, rfl⟩ := need_of t0 t1 t2 t3 t4
  exact ⟨x, by rw [five_cells hs c0 c1 c2 c3 c4], hx⟩
def ndC (n : Nd) : List Value := [.int .i64 n.kind, .string n.sym, .int .i64 n.add, .bool n.minus, .int .u64 n.v]
theorem ndC_len : ∀ n, (ndC n).length = 5 := fun _ => rfl
theorem open_Needs {H : Type} {encH : TypeId × Value → H} {W : World} {base : Nat} {v : Value} {d : DataW H} {p : List MemPlace}
    (hv : Value.okWide Try.prog W .any base 38 v) (h : DataW.Trod encH Try.prog W 0 (fun _ => true) true 38 v d p) :
    ∃ (a : Option Addr) (n c : Nat) (l : List Nd), v = .slice a n c ∧ n ≤ maxLen ∧ (∀ x ∈ l, GoodN x) ∧ SL ndC 5 W W.heap.size a n l := by
  obtain ⟨a, n, c, l, h1, h2, h3, h4, -⟩ := open_SL (sz := 5) (enc := ndC) GoodN ⟨0, ⟨#[]⟩, 0, false, 0⟩ Try.underlying38 Try.underlying24 (by kernel_rfl) (by kernel_rfl) rfl (by decide) ndC_len (by
    intro cell m hc
    obtain ⟨v0, y0, c0, t0⟩ := hc 0 _ rfl
    obtain ⟨v1, y1, c1, t1⟩ := hc 1 _ rfl
    obtain ⟨v2, y2, c2, t2⟩ := hc 2 _ rfl
    obtain ⟨v3, y3, c3, t3⟩ := hc 3 _ rfl
    obtain ⟨v4, y4, c4, t4⟩ := hc 4 _ rfl
    obtain ⟨x, hx, rfl, rfl, rfl, rfl, rfl⟩ := need_of t0 t1 t2 t3 t4
    refine ⟨x, hx, fun j hj => ?_⟩
    match j, hj with
    | 0, _ => exact c0
    | 1, _ => exact c1
    | 2, _ => exact c2
    | 3, _ => exact c3
    | 4, _ => exact c4) hv h
  exact ⟨a, n, c, l, h1, h2, h3, h4⟩
end Go.Proofs.Ytbicmnbmkaffeaa
