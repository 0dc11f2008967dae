/- line's laws: rows of operands as an argument; short. -/
import Derived.Test.YthejefldnpeciaaGreatDooryS
import Derived.Lib.SmallJoins
import Derived.OpenShut
import Derived.WideShapes
import Derived.ChangeSame
namespace Go.Proofs.YthejefldnpeciaaGreatDoor
set_option linter.unusedVariables false
set_option linter.unusedSimpArgs false
open Go.ChangeShapes Go.WideShapes Go.Deep Go.RowKit

section
variable {α : Type} {enc : α → List Value} {sz : Nat}
theorem open_SL2 {H : Type} {encH : TypeId × Value → H} {P : Program} {W : World} {base : Nat} {v : Value} {d : DataW H} {p : List MemPlace} {t e : TypeId} {fs : Array Field} (good : α → Prop) (dummy : α)
    (ht : P.underlying t = some (.slice e)) (he : P.underlying e = some (.struct fs)) (hone : oneCellFields P fs = true) (hC : P.cellsOf e = fs.size) (hfs : fs.size = sz) (h0 : 0 < sz)
    (henc : ∀ x, (enc x).length = sz)
    (hel : ∀ (cell : Nat → Option Value) (m : Nat), (∀ (j : Nat) (f : Field), fs[j]? = some f → ∃ (u : Value) (y : DataW H × List MemPlace), cell j = some u ∧ DataW.trod encH P W 0 (fun _ => true) true m f.type [u] = some y) → ∃ x : α, good x ∧ ∀ j, j < sz → cell j = (enc x)[j]?)
    (hv : Value.okWide P W .any base t v) (h : DataW.Trod encH P W 0 (fun _ => true) true t v d p) :
    ∃ (a : Option Addr) (n c : Nat) (l : List α), v = .slice a n c ∧ n ≤ maxLen ∧ (∀ x ∈ l, good x) ∧ SL enc sz W W.heap.size a n l ∧ (a = none → n = 0 ∧ c = 0) ∧ n ≤ c ∧ ∀ R bt : Nat, (∀ el sp, d = .slice el sp → (el.length + sp.length) * bt ≤ R) → n * bt ≤ R := by
  obtain ⟨a0, len, cap, rfl⟩ := okWide_slice ht hv
  obtain ⟨fuel, hf⟩ := h
  rcases open_slice_fields ht he hone hC hf with ⟨hcs, hx⟩ | ⟨a, len', cap', m, D, Pl, hcs, hb, hl, hm, hmm, hx, hi⟩
  · simp only [Value.cells, List.cons.injEq, Value.slice.injEq, and_true] at hcs
    obtain ⟨rfl, rfl, rfl⟩ := hcs
    exact ⟨none, 0, 0, [], rfl, by unfold maxLen; omega, by simp, SL.nil _ _ _, fun _ => ⟨rfl, rfl⟩, Nat.le_refl _, by intro R bt _; omega⟩
  · simp only [Value.cells, List.cons.injEq, Value.slice.injEq, and_true] at hcs
    obtain ⟨rfl, rfl, rfl⟩ := hcs
    have hlm : len ≤ m := by split at hmm <;> omega
    have hc : ∀ i, i < len → ∃ x : α, good x ∧ ∀ j, j < sz → W.cell? (a.add (i * sz + j)) = (enc x)[j]? := by
      intro i hi'
      obtain ⟨ys, k, -, -, -, hfs'⟩ := hi i (by omega)
      exact hel (fun j => W.cell? (a.add (i * sz + j))) k (fun j f hj => by obtain ⟨u, y, c1, _, c2⟩ := hfs' j f hj; rw [hfs] at c1; exact ⟨u, y, c1, c2⟩)
    have hall : ∃ g : Nat → α, ∀ i, i < len → good (g i) ∧ ∀ j, j < sz → W.cell? (a.add (i * sz + j)) = (enc (g i))[j]? :=
      ⟨fun i => if h : i < len then Classical.choose (hc i h) else dummy, fun i h => by simp only [h, dite_true]; exact Classical.choose_spec (hc i h)⟩
    obtain ⟨g, hg⟩ := hall
    refine ⟨some a, len, cap, (List.range len).map g, rfl, by omega, ?_, ⟨by simp, ?_⟩, by simp, hl, fun R bt hR => ?_⟩
    rotate_left 2
    · simp only [Prod.mk.injEq] at hx
      have := hR _ _ hx.1
      simp only [List.length_map, List.length_range] at this
      exact Nat.le_trans (Nat.mul_le_mul_right _ (Nat.le_add_right _ _)) this
    · intro f hf
      obtain ⟨i, hi2, rfl⟩ := List.mem_map.1 hf
      exact (hg i (by simpa using hi2)).1
    · intro hne
      have hlen : 0 < len := by
        rcases Nat.eq_zero_or_pos len with h | h
        · subst h; simp at hne
        · exact h
      have h00 := (hg 0 hlen).2 0 h0
      have hsome : ∃ u, W.cell? (a.add (0 * sz + 0)) = some u := by
        rw [h00]; exact ⟨_, List.getElem?_eq_getElem (by rw [henc]; exact h0)⟩
      obtain ⟨u, hu⟩ := hsome
      have ea : a.add (0 * sz + 0) = a := by simp [Addr.add]
      rw [ea] at hu
      have hal : a.block < W.heap.size := cell_lt hu
      obtain ⟨b, off, el⟩ := a
      have hel' : el = none := cell_spot hu
      subst hel'
      refine ⟨b, off, rfl, hal, fun k hk j hj => ?_⟩
      have hk' : k < len := by simpa using hk
      have := (hg k hk').2 j hj
      rw [add_none] at this
      simpa only [Nat.add_assoc, List.getElem_map, List.getElem_range] using this
end
theorem ba_back (s : ByteArray) : (⟨s.data.toList.toArray⟩ : ByteArray) = s := by cases s; rfl
set_option maxRecDepth 10000 in
theorem open_Opnds {H : Type} {encH : TypeId × Value → H} {W : World} {base : Nat} {v : Value} {d : DataW H} {p : List MemPlace}
    (hv : Value.okWide Tryz.prog W .any base 22 v) (h : DataW.Trod encH Tryz.prog W 0 (fun _ => true) true 22 v d p) :
    ∃ (a : Option Addr) (n c : Nat) (l : List Po), v = .slice a n c ∧ n ≤ maxLen ∧ (∀ o ∈ l, GoodPo o) ∧ SL poC 7 W W.heap.size a n l := by
  obtain ⟨a, n, c, l, h1, h2, h3, h4, -⟩ := open_SL2 (sz := 7) (enc := poC) GoodPo ⟨0, 0, false, false, 0, [], 0⟩ Tryz.underlying22 Tryz.underlying38 (by kernel_rfl) (by kernel_rfl) rfl (by decide) po_len (by
    intro cell m hc
    obtain ⟨v0, y0, c0, t0⟩ := hc 0 _ rfl
    obtain ⟨v1, y1, c1, t1⟩ := hc 1 _ rfl
    obtain ⟨v2, y2, c2, t2⟩ := hc 2 _ rfl
    obtain ⟨v3, y3, c3, t3⟩ := hc 3 _ rfl
    obtain ⟨v4, y4, c4, t4⟩ := hc 4 _ rfl
    obtain ⟨v5, y5, c5, t5⟩ := hc 5 _ rfl
    obtain ⟨v6, y6, c6, t6⟩ := hc 6 _ rfl
    obtain ⟨x0, e0, -, w0⟩ := DataW.trod_int Tryz.underlying3 t0
    obtain ⟨x1, e1, -, w1⟩ := DataW.trod_int Tryz.underlying3 t1
    obtain ⟨x2, e2, -⟩ := DataW.trod_bool Tryz.underlying4 t2
    obtain ⟨x3, e3, -⟩ := DataW.trod_bool Tryz.underlying4 t3
    obtain ⟨x4, e4, -, w4⟩ := DataW.trod_int Tryz.underlying24 t4
    obtain ⟨x5, e5, -, w5⟩ := DataW.trod_string Tryz.underlying9 t5
    obtain ⟨x6, e6, -, w6⟩ := DataW.trod_int Tryz.underlying3 t6
    simp only [List.cons.injEq, and_true] at e0 e1 e2 e3 e4 e5 e6
    subst e0 e1 e2 e3 e4 e5 e6
    have b4 := bounds_u64 w4
    refine ⟨⟨x0, x1, x2, x3, x4, x5.data.toList, x6⟩, ⟨bounds_i64 w0, bounds_i64 w1, bounds_i64 w6, ⟨b4.1, by have := b4.2; show x4 < 18446744073709551616; omega⟩⟩, fun j hj => ?_⟩
    match j, hj with
    | 0, _ => exact c0
    | 1, _ => exact c1
    | 2, _ => rw [show (poC ⟨x0, x1, x2, x3, x4, x5.data.toList, x6⟩)[2]? = some (.bool x2) from rfl]; exact c2
    | 3, _ => rw [show (poC ⟨x0, x1, x2, x3, x4, x5.data.toList, x6⟩)[3]? = some (.bool x3) from rfl]; exact c3
    | 4, _ => rw [show (poC ⟨x0, x1, x2, x3, x4, x5.data.toList, x6⟩)[4]? = some (.int .u64 x4) from rfl]; exact c4
    | 5, _ => rw [show (poC ⟨x0, x1, x2, x3, x4, x5.data.toList, x6⟩)[5]? = some (.string ⟨x5.data.toList.toArray⟩) from rfl, ba_back]; exact c5
    | 6, _ => rw [show (poC ⟨x0, x1, x2, x3, x4, x5.data.toList, x6⟩)[6]? = some (.int .i64 x6) from rfl]; exact c6) hv h
  exact ⟨a, n, c, l, h1, h2, h3, h4⟩
def ShP (n : Nat) (w : World) (e : Ending) (w' : World) : Prop := ∃ r : Bool, e = .returned (.bool r) ∧ (r = true → n ≤ 12) ∧ w = w'
set_option maxRecDepth 100000 in
set_option maxHeartbeats 2000000 in
theorem short_any (w : World) (oa : Option Addr) (n oc : Nat) (L : List Po) (hs : SL poC 7 w w.heap.size oa n L) (hn : n ≤ maxLen) :
    Calls Tryz.prog 7 #[.slice oa n oc] w (ShP n w) := by
  have hni : (n : Int) ≤ 9223372036854775807 := by unfold maxLen at hn; omega
  have HL := Lib.hid hs.len
  have HS := Lib.hid hs
  clear hs hn
  go_enter Tryz.func7, Tryz.ntmps7
  go_wp2_with fail
  go_loop [3] (fun i => ∃ k : Nat, k ≤ n ∧ i = .int .i64 k) (fun i => n - (intOf i).toNat)
  case atStart => exact ⟨0, by omega, rfl⟩
  case round =>
    obtain ⟨k, hk, rfl⟩ := hrel
    by_cases hlt : k < n
    · have hlti : (k : Int) < (n : Int) := by omega
      have HLT := Lib.hid hlt
      obtain ⟨o, ho⟩ : ∃ o, L[k]? = some o := ⟨_, List.getElem?_eq_getElem (by rw [← HL.out]; exact hlt)⟩
      obtain ⟨b, of, hoa, -, hc⟩ := HS.out.cells (by intro e; rw [e] at ho; cases ho)
      subst hoa
      obtain ⟨hkl, hoe⟩ := List.getElem?_eq_some_iff.1 ho
      obtain ⟨-, -, -, -, -, y5, -⟩ := po_cells (fun j hj => hc k hkl j hj)
      rw [hoe] at y5
      clear hc ho hkl hoe hk hlt
      by_cases hl : (100 : Int) < (o.sym.length : Int)
      · go_wp2
        go_ret
        exact ⟨false, rfl, fun h => (by cases h), rfl⟩
      · go_wp2
        go_round
        case rel => exact ⟨k + 1, by have := HLT.out; omega, by go_num⟩
        case measure => have := HLT.out; simp [intOf]; omega
    · have hlti : ¬ (k : Int) < (n : Int) := by omega
      clear hk hlt
      by_cases h12 : (n : Int) ≤ 12
      · go_wp2
        go_ret
        exact ⟨true, rfl, fun _ => by omega, rfl⟩
      · go_wp2
        go_ret
        exact ⟨false, rfl, fun h => (by cases h), rfl⟩
end Go.Proofs.YthejefldnpeciaaGreatDoor
