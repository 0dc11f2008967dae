/- How an argument that is a slice of structs reads: cell by cell. -/
import Derived.Test.YtpneegmggoebhaaW1
import Derived.Deep.Slices
import Derived.Deep.Fields
import Derived.ChangeSame
import Derived.OpenShut
namespace Go.Proofs.Ytpneegmggoebhaa
open Go.ChangeShapes Go.WideShapes Go.Deep Go.RowKit
set_option linter.unusedVariables false

section
variable {H : Type} {enc : TypeId × Value → H} {P : Program} {w : World} {base : Nat} {spare : Nat → Bool} {held : Bool}
theorem open_slice_fields {t e : TypeId} {fs : Array Field} {fuel : Nat} {cs : List Value} {x : DataW H × List MemPlace} (ht : P.underlying t = some (.slice e)) (he : P.underlying e = some (.struct fs))
    (hone : oneCellFields P fs = true) (hC : P.cellsOf e = fs.size) (h : DataW.trod enc P w base spare held fuel t cs = some x) :
    (cs = [.slice none 0 0] ∧ x = (.nil, [])) ∨
    ∃ (a : Addr) (len cap m : Nat) (D : Nat → DataW H) (Pl : Nat → List MemPlace), cs = [.slice (some a) len cap] ∧ base ≤ a.block ∧ len ≤ cap ∧ cap ≤ maxLen ∧ m = (if spare a.block then cap else len) ∧
      x = (.slice ((List.range len).map D) ((List.range (m - len)).map fun j => D (len + j)), MemPlace.row a (m * fs.size) ++ (List.range m).flatMap Pl) ∧
      ∀ i, i < m → ∃ (ys : List (DataW H × List MemPlace)) (n : Nat), D i = .agg (ys.map (·.1)) ∧ Pl i = ys.flatMap (·.2) ∧ ys.length = fs.size ∧
        ∀ (j : Nat) (f : Field), fs[j]? = some f → ∃ (v : Value) (y : DataW H × List MemPlace), w.cell? (a.add (i * fs.size + j)) = some v ∧ ys[j]? = some y ∧ DataW.trod enc P w base spare held n f.type [v] = some y := by
  rcases open_slice ht h with h0 | ⟨a, len, cap, m, n, D, Pl, hcs, hb, hl, hm, hmm, hx, hi⟩
  · exact .inl h0
  · refine .inr ⟨a, len, cap, m, D, Pl, hcs, hb, hl, hm, hmm, by rw [hC] at hx; exact hx, fun i him => ?_⟩
    obtain ⟨cs', hc, ht'⟩ := hi i him
    rw [hC] at hc
    obtain ⟨ys, n', hn', hy, hlen, hyl, hf⟩ := DataW.trod_struct he ht'
    obtain ⟨_, hcl, hat⟩ := World.cells?_some hc
    simp only [Prod.mk.injEq] at hy
    refine ⟨ys, n', hy.1, hy.2, hyl, fun j f hj => ?_⟩
    obtain ⟨ho, hk⟩ := hone_of hone j f hj
    have hjl : j < fs.size := (Array.getElem?_eq_some_iff.1 hj).1
    have hcell := hat j hjl
    have hv : cs'[j]? = some (cs'[j]'(by omega)) := List.getElem?_eq_getElem (by omega)
    have h1 := hf j f hj
    rw [ho, hk] at h1
    have hone' : (cs'.drop j).take 1 = [cs'[j]'(by omega)] := by
      rw [List.drop_eq_getElem_cons (by omega)]
      rfl
    rw [hone'] at h1
    have hys : ys[j]? = some (ys[j]'(by omega)) := List.getElem?_eq_getElem (by omega)
    refine ⟨_, _, ?_, hys, h1.trans hys⟩
    rw [← Go.Deep.add_add, hcell, hv]
end

theorem cell_lt {w : World} {a : Addr} {v : Value} (h : w.cell? a = some v) : a.block < w.heap.size := by
  apply Classical.byContradiction
  intro hn
  have : w.heap[a.block]? = none := by simp; omega
  simp [World.cell?, this] at h

theorem cell_spot {w : World} {a : Addr} {v : Value} (h : w.cell? a = some v) : a.spot = none := by
  cases hs : a.spot with
  | none => rfl
  | some x =>
    unfold World.cell? at h
    split at h
    · simp [hs] at h
    · cases h
theorem add_none (b off n : Nat) : (⟨b, off, none⟩ : Addr).add n = ⟨b, off + n, none⟩ := by
  unfold Addr.add
  by_cases h : n = 0
  · simp [h]
  · simp [h]
theorem open_FS {H : Type} {enc : TypeId × Value → H} {W : World} {base : Nat} {v : Value} {d : DataW H} {p : List MemPlace}
    (hv : Value.okWide Try.prog W .any base 23 v) (h : DataW.Trod enc Try.prog W 0 (fun _ => true) true 23 v d p) :
    ∃ (a : Option Addr) (n c : Nat) (l : List F3), v = .slice a n c ∧ n ≤ maxLen ∧ FS W W.heap.size a n l := by
  obtain ⟨a0, len, cap, rfl⟩ := okWide_slice Try.underlying23 hv
  obtain ⟨fuel, hf⟩ := h
  rcases open_slice_fields Try.underlying23 Try.underlying43 (by kernel_rfl) (by kernel_rfl) hf with ⟨hcs, hx⟩ | ⟨a, len', cap', m, D, Pl, hcs, hb, hl, hm, hmm, hx, hi⟩
  · simp only [Value.cells, List.cons.injEq, Value.slice.injEq, and_true] at hcs
    obtain ⟨rfl, rfl, rfl⟩ := hcs
    exact ⟨none, 0, 0, [], rfl, by unfold maxLen; omega, ⟨rfl, by simp, by simp⟩⟩
  · simp only [Value.cells, List.cons.injEq, Value.slice.injEq, and_true] at hcs
    obtain ⟨rfl, rfl, rfl⟩ := hcs
    have hlm : len ≤ m := by split at hmm <;> omega
    have hc : ∀ i, i < len → ∃ f : F3, (0 ≤ f.2.2 ∧ f.2.2 < 4294967296 ∧ -9223372036854775808 ≤ f.1 ∧ f.1 ≤ 9223372036854775807 ∧ -9223372036854775808 ≤ f.2.1 ∧ f.2.1 ≤ 9223372036854775807) ∧
        W.cell? (a.add (i * 3)) = some (.int .i64 f.1) ∧ W.cell? (a.add (i * 3 + 1)) = some (.int .i64 f.2.1) ∧ W.cell? (a.add (i * 3 + 2)) = some (.int .u32 f.2.2) := by
      intro i hi'
      obtain ⟨ys, n, -, -, -, hfs⟩ := hi i (by omega)
      obtain ⟨v0, y0, c0, -, t0⟩ := hfs 0 _ rfl
      obtain ⟨v1, y1, c1, -, t1⟩ := hfs 1 _ rfl
      obtain ⟨v2, y2, c2, -, t2⟩ := hfs 2 _ rfl
      obtain ⟨x0, e0, -, w0⟩ := DataW.trod_int Try.underlying3 t0
      obtain ⟨x1, e1, -, w1⟩ := DataW.trod_int Try.underlying3 t1
      obtain ⟨x2, e2, -, w2⟩ := DataW.trod_int Try.underlying22 t2
      simp only [List.cons.injEq, and_true] at e0 e1 e2
      subst e0 e1 e2
      have b0 := bounds_i64 w0
      have b1 := bounds_i64 w1
      have b2 := bounds_u32 w2
      exact ⟨(x0, x1, x2), ⟨by simp only []; omega, by simp only []; omega, by simp only []; omega, by simp only []; omega, by simp only []; omega, by simp only []; omega⟩, c0, c1, c2⟩
    have hall : ∃ g : Nat → F3, ∀ i, i < len → (0 ≤ (g i).2.2 ∧ (g i).2.2 < 4294967296 ∧ -9223372036854775808 ≤ (g i).1 ∧ (g i).1 ≤ 9223372036854775807 ∧ -9223372036854775808 ≤ (g i).2.1 ∧ (g i).2.1 ≤ 9223372036854775807) ∧
        W.cell? (a.add (i * 3)) = some (.int .i64 (g i).1) ∧ W.cell? (a.add (i * 3 + 1)) = some (.int .i64 (g i).2.1) ∧ W.cell? (a.add (i * 3 + 2)) = some (.int .u32 (g i).2.2) :=
      ⟨fun i => if h : i < len then Classical.choose (hc i h) else (0, 0, 0), fun i h => by simp only [h, dite_true]; exact Classical.choose_spec (hc i h)⟩
    obtain ⟨g, hg⟩ := hall
    refine ⟨some a, len, cap, (List.range len).map g, rfl, by omega, ⟨by simp, ?_, ?_⟩⟩
    · intro f hf
      obtain ⟨i, hi2, rfl⟩ := List.mem_map.1 hf
      exact (hg i (by simpa using hi2)).1
    · intro hne
      have hlen : 0 < len := by
        rcases Nat.eq_zero_or_pos len with h | h
        · subst h; simp at hne
        · exact h
      have hal : a.block < W.heap.size := cell_lt (hg 0 hlen).2.1
      obtain ⟨b, off, el⟩ := a
      have hel : el = none := cell_spot (hg 0 hlen).2.1
      subst hel
      refine ⟨b, off, rfl, hal, fun k hk => ?_⟩
      have hk' : k < len := by simpa using hk
      have := (hg k hk').2
      simpa only [add_none, Nat.add_assoc, List.getElem_map, List.getElem_range] using this
theorem open_FS2 {H : Type} {enc : TypeId × Value → H} {W : World} {base : Nat} {v : Value} {d : DataW H} {p : List MemPlace}
    (hv : Value.okWide Try.prog W .any base 23 v) (h : DataW.Trod enc Try.prog W 0 (fun _ => true) true 23 v d p) :
    ∃ (a : Option Addr) (n c : Nat) (l : List F3), v = .slice a n c ∧ n ≤ maxLen ∧ FS W W.heap.size a n l ∧ (a = none → n = 0 ∧ c = 0) := by
  obtain ⟨a0, len, cap, rfl⟩ := okWide_slice Try.underlying23 hv
  obtain ⟨fuel, hf⟩ := h
  rcases open_slice_fields Try.underlying23 Try.underlying43 (by kernel_rfl) (by kernel_rfl) hf with ⟨hcs, hx⟩ | ⟨a, len', cap', m, D, Pl, hcs, hb, hl, hm, hmm, hx, hi⟩
  · simp only [Value.cells, List.cons.injEq, Value.slice.injEq, and_true] at hcs
    obtain ⟨rfl, rfl, rfl⟩ := hcs
    exact ⟨none, 0, 0, [], rfl, by unfold maxLen; omega, ⟨rfl, by simp, by simp⟩, by simp⟩
  · simp only [Value.cells, List.cons.injEq, Value.slice.injEq, and_true] at hcs
    obtain ⟨rfl, rfl, rfl⟩ := hcs
    have hlm : len ≤ m := by split at hmm <;> omega
    have hc : ∀ i, i < len → ∃ f : F3, (0 ≤ f.2.2 ∧ f.2.2 < 4294967296 ∧ -9223372036854775808 ≤ f.1 ∧ f.1 ≤ 9223372036854775807 ∧ -9223372036854775808 ≤ f.2.1 ∧ f.2.1 ≤ 9223372036854775807) ∧
        W.cell? (a.add (i * 3)) = some (.int .i64 f.1) ∧ W.cell? (a.add (i * 3 + 1)) = some (.int .i64 f.2.1) ∧ W.cell? (a.add (i * 3 + 2)) = some (.int .u32 f.2.2) := by
      intro i hi'
      obtain ⟨ys, n, -, -, -, hfs⟩ := hi i (by omega)
      obtain ⟨v0, y0, c0, -, t0⟩ := hfs 0 _ rfl
      obtain ⟨v1, y1, c1, -, t1⟩ := hfs 1 _ rfl
      obtain ⟨v2, y2, c2, -, t2⟩ := hfs 2 _ rfl
      obtain ⟨x0, e0, -, w0⟩ := DataW.trod_int Try.underlying3 t0
      obtain ⟨x1, e1, -, w1⟩ := DataW.trod_int Try.underlying3 t1
      obtain ⟨x2, e2, -, w2⟩ := DataW.trod_int Try.underlying22 t2
      simp only [List.cons.injEq, and_true] at e0 e1 e2
      subst e0 e1 e2
      have b0 := bounds_i64 w0
      have b1 := bounds_i64 w1
      have b2 := bounds_u32 w2
      exact ⟨(x0, x1, x2), ⟨by simp only []; omega, by simp only []; omega, by simp only []; omega, by simp only []; omega, by simp only []; omega, by simp only []; omega⟩, c0, c1, c2⟩
    have hall : ∃ g : Nat → F3, ∀ i, i < len → (0 ≤ (g i).2.2 ∧ (g i).2.2 < 4294967296 ∧ -9223372036854775808 ≤ (g i).1 ∧ (g i).1 ≤ 9223372036854775807 ∧ -9223372036854775808 ≤ (g i).2.1 ∧ (g i).2.1 ≤ 9223372036854775807) ∧
        W.cell? (a.add (i * 3)) = some (.int .i64 (g i).1) ∧ W.cell? (a.add (i * 3 + 1)) = some (.int .i64 (g i).2.1) ∧ W.cell? (a.add (i * 3 + 2)) = some (.int .u32 (g i).2.2) :=
      ⟨fun i => if h : i < len then Classical.choose (hc i h) else (0, 0, 0), fun i h => by simp only [h, dite_true]; exact Classical.choose_spec (hc i h)⟩
    obtain ⟨g, hg⟩ := hall
    refine ⟨some a, len, cap, (List.range len).map g, rfl, by omega, ⟨by simp, ?_, ?_⟩, by simp⟩
    · intro f hf
      obtain ⟨i, hi2, rfl⟩ := List.mem_map.1 hf
      exact (hg i (by simpa using hi2)).1
    · intro hne
      have hlen : 0 < len := by
        rcases Nat.eq_zero_or_pos len with h | h
        · subst h; simp at hne
        · exact h
      have hal : a.block < W.heap.size := cell_lt (hg 0 hlen).2.1
      obtain ⟨b, off, el⟩ := a
      have hel : el = none := cell_spot (hg 0 hlen).2.1
      subst hel
      refine ⟨b, off, rfl, hal, fun k hk => ?_⟩
      have hk' : k < len := by simpa using hk
      have := (hg k hk').2
      simpa only [add_none, Nat.add_assoc, List.getElem_map, List.getElem_range] using this
end Go.Proofs.Ytpneegmggoebhaa
