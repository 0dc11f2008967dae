/- operand and local: how arguments that are tokens or marks read. -/
import Derived.Test.YtngoipcjipbelaaDoorOY
import Derived.Lib.SmallJoins
import Derived.OpenShut
import Derived.WideShapes
import Derived.ChangeSame
namespace Go.Proofs.YtngoipcjipbelaaDoor
set_option linter.unusedVariables false
set_option linter.unusedSimpArgs false
open Go.ChangeShapes Go.WideShapes Go.Deep Go.RowKit

section
variable {α : Type} {enc : α → List Value} {sz : Nat}
theorem open_SL2 {H : Type} {encH : TypeId × Value → H} {P : Program} {W : World} {base : Nat} {v : Value} {d : DataW H} {p : List MemPlace} {t e : TypeId} {fs : Array Field} (good : α → Prop) (dummy : α)
    (ht : P.underlying t = some (.slice e)) (he : P.underlying e = some (.struct fs)) (hone : oneCellFields P fs = true) (hC : P.cellsOf e = fs.size) (hfs : fs.size = sz) (h0 : 0 < sz)
    (henc : ∀ x, (enc x).length = sz)
    (hel : ∀ (cell : Nat → Option Value) (m : Nat), (∀ (j : Nat) (f : Field), fs[j]? = some f → ∃ (u : Value) (y : DataW H × List MemPlace), cell j = some u ∧ DataW.trod encH P W 0 (fun _ => true) true m f.type [u] = some y) → ∃ x : α, good x ∧ ∀ j, j < sz → cell j = (enc x)[j]?)
    (hv : Value.okWide P W .any base t v) (h : DataW.Trod encH P W 0 (fun _ => true) true t v d p) :
    ∃ (a : Option Addr) (n c : Nat) (l : List α), v = .slice a n c ∧ n ≤ maxLen ∧ (∀ x ∈ l, good x) ∧ SL enc sz W W.heap.size a n l ∧ (a = none → n = 0 ∧ c = 0) ∧ n ≤ c ∧ ∀ R bt : Nat, (∀ el sp, d = .slice el sp → (el.length + sp.length) * bt ≤ R) → n * bt ≤ R := by
  obtain ⟨a0, len, cap, rfl⟩ := okWide_slice ht hv
  obtain ⟨fuel, hf⟩ := h
  rcases open_slice_fields ht he hone hC hf with ⟨hcs, hx⟩ | ⟨a, len', cap', m, D, Pl, hcs, hb, hl, hm, hmm, hx, hi⟩
  · simp only [Value.cells, List.cons.injEq, Value.slice.injEq, and_true] at hcs
    obtain ⟨rfl, rfl, rfl⟩ := hcs
    exact ⟨none, 0, 0, [], rfl, by unfold maxLen; omega, by simp, SL.nil _ _ _, fun _ => ⟨rfl, rfl⟩, Nat.le_refl _, by intro R bt _; omega⟩
  · simp only [Value.cells, List.cons.injEq, Value.slice.injEq, and_true] at hcs
    obtain ⟨rfl, rfl, rfl⟩ := hcs
    have hlm : len ≤ m := by split at hmm <;> omega
    have hc : ∀ i, i < len → ∃ x : α, good x ∧ ∀ j, j < sz → W.cell? (a.add (i * sz + j)) = (enc x)[j]? := by
      intro i hi'
      obtain ⟨ys, k, -, -, -, hfs'⟩ := hi i (by omega)
      exact hel (fun j => W.cell? (a.add (i * sz + j))) k (fun j f hj => by obtain ⟨u, y, c1, _, c2⟩ := hfs' j f hj; rw [hfs] at c1; exact ⟨u, y, c1, c2⟩)
    have hall : ∃ g : Nat → α, ∀ i, i < len → good (g i) ∧ ∀ j, j < sz → W.cell? (a.add (i * sz + j)) = (enc (g i))[j]? :=
      ⟨fun i => if h : i < len then Classical.choose (hc i h) else dummy, fun i h => by simp only [h, dite_true]; exact Classical.choose_spec (hc i h)⟩
    obtain ⟨g, hg⟩ := hall
    refine ⟨some a, len, cap, (List.range len).map g, rfl, by omega, ?_, ⟨by simp, ?_⟩, by simp, hl, fun R bt hR => ?_⟩
    rotate_left 2
    · simp only [Prod.mk.injEq] at hx
      have := hR _ _ hx.1
      simp only [List.length_map, List.length_range] at this
      exact Nat.le_trans (Nat.mul_le_mul_right _ (Nat.le_add_right _ _)) this
    · intro f hf
      obtain ⟨i, hi2, rfl⟩ := List.mem_map.1 hf
      exact (hg i (by simpa using hi2)).1
    · intro hne
      have hlen : 0 < len := by
        rcases Nat.eq_zero_or_pos len with h | h
        · subst h; simp at hne
        · exact h
      have h00 := (hg 0 hlen).2 0 h0
      have hsome : ∃ u, W.cell? (a.add (0 * sz + 0)) = some u := by
        rw [h00]; exact ⟨_, List.getElem?_eq_getElem (by rw [henc]; exact h0)⟩
      obtain ⟨u, hu⟩ := hsome
      have ea : a.add (0 * sz + 0) = a := by simp [Addr.add]
      rw [ea] at hu
      have hal : a.block < W.heap.size := cell_lt hu
      obtain ⟨b, off, el⟩ := a
      have hel' : el = none := cell_spot hu
      subst hel'
      refine ⟨b, off, rfl, hal, fun k hk j hj => ?_⟩
      have hk' : k < len := by simpa using hk
      have := (hg k hk').2 j hj
      rw [add_none] at this
      simpa only [Nat.add_assoc, List.getElem_map, List.getElem_range] using this
end
theorem ba_back (s : ByteArray) : (⟨s.data.toList.toArray⟩ : ByteArray) = s := by cases s; rfl
theorem ti_len (t : Ti) : (tiC t).length = 3 := rfl
theorem ti_one (t : Ti) : ∀ u ∈ tiC t, u.oneCell' = true := by intro u hu; simp only [tiC, List.mem_cons, List.mem_nil_iff, or_false] at hu; rcases hu with rfl | rfl | rfl <;> rfl
set_option maxRecDepth 10000 in
theorem open_Toks {H : Type} {encH : TypeId × Value → H} {W : World} {base : Nat} {v : Value} {d : DataW H} {p : List MemPlace}
    (hv : Value.okWide Tryd.prog W .any base 26 v) (h : DataW.Trod encH Tryd.prog W 0 (fun _ => true) true 26 v d p) :
    ∃ (a : Option Addr) (n c : Nat) (l : List Ti), v = .slice a n c ∧ n ≤ maxLen ∧ GoodTs l ∧ SL tiC 3 W W.heap.size a n l ∧ (a = none → n = 0 ∧ c = 0) ∧ n ≤ c ∧ ∀ R bt : Nat, (∀ el sp, d = .slice el sp → (el.length + sp.length) * bt ≤ R) → n * bt ≤ R := by
  refine open_SL2 (sz := 3) (enc := tiC) GoodTi tiZ Tryd.underlying26 Tryd.underlying31 (by kernel_rfl) (by kernel_rfl) rfl (by decide) ti_len (by
    intro cell m hc
    obtain ⟨v0, y0, c0, t0⟩ := hc 0 _ rfl
    obtain ⟨v1, y1, c1, t1⟩ := hc 1 _ rfl
    obtain ⟨v2, y2, c2, t2⟩ := hc 2 _ rfl
    obtain ⟨x0, e0, -, w0⟩ := DataW.trod_int Tryd.underlying3 t0
    obtain ⟨x1, e1, -, w1⟩ := DataW.trod_string Tryd.underlying9 t1
    obtain ⟨x2, e2, -, w2⟩ := DataW.trod_int Tryd.underlying29 t2
    simp only [List.cons.injEq, and_true] at e0 e1 e2
    subst e0 e1 e2
    have b2 := bounds_u64 w2
    refine ⟨⟨x0, x1.data.toList, x2⟩, ⟨bounds_i64 w0, ?_, ?_⟩, fun j hj => ?_⟩
    · show x1.data.toList.length ≤ maxLen
      rw [Array.length_toList]; exact w1
    · show 0 ≤ x2 ∧ x2 < 18446744073709551616
      omega
    match j, hj with
    | 0, _ => exact c0
    | 1, _ => rw [show (tiC ⟨x0, x1.data.toList, x2⟩)[1]? = some (.string ⟨x1.data.toList.toArray⟩) from rfl, ba_back]; exact c1
    | 2, _ => rw [show (tiC ⟨x0, x1.data.toList, x2⟩)[2]? = some (.int .u64 x2) from rfl]; exact c2) hv h
end Go.Proofs.YtngoipcjipbelaaDoor
