/- mem: the sort of the areas. -/
import Derived.Test.YtogigmehclmjcaaME8
import Derived.Shelf.SlSortCmp.WholeK
import Derived.Shelf.Lay
import Derived.Ground.SlsfProg
namespace Go.Proofs
open Go.Shelf
shelf_lay_g SlLaysF0.n6 Slsf 6 at Try 15 as Try.sortAr
end Go.Proofs
namespace Go.Proofs.Ytogigmehclmjcaa
set_option linter.unusedVariables false
set_option linter.unusedSimpArgs false
open Go.ChangeShapes Go.WideShapes Go.Deep Go.RowKit

theorem cmp_lays (blk off size : Nat) (w : World) : CmpLays Try.prog 16 #[] arC 3 cmpA blk off size w :=
  fun _ _ _ _ x y => (byPlace_any x y _).mono fun _ _ ⟨he, os, hw⟩ => ⟨he, 0, os, hw⟩
theorem lt_cmpA (x y : Ar) : ltOf cmpA x y = decide (x.pos < y.pos) := by
  unfold ltOf cmpA
  by_cases h1 : x.pos < y.pos
  · simp [h1]
  · by_cases h2 : y.pos < x.pos <;> simp [h1, h2]
theorem swoA : Go.Sort.SWO (ltOf cmpA) where
  irrefl x := by rw [lt_cmpA]; simp
  trans x y z h1 h2 := by rw [lt_cmpA] at *; simp at *; omega
  ntrans x y z h1 h2 := by rw [lt_cmpA] at *; simp at *; omega
theorem sw_other (w : World) (g n : Nat) (d : Array Ar) (os : Array Obj) {k : Nat} (hk : k < w.heap.size) (hne : k ≠ g) : (sortWorldK arC 3 w g 0 n d os).heap[k]? = w.heap[k]? := by
  unfold sortWorldK Go.Sort.grow Go.Sort.putRowK Go.Sort.putRow Go.Sort.mapBlock Go.Sort.ahead
  rw [Array.getElem?_append, if_pos (by simpa using hk), Array.getElem?_modify, if_neg (Ne.symm hne)]
theorem sw_row {w : World} {g n : Nat} {d : Array Ar} {os : Array Obj} {cur : Array Value} {T : TypeId} {fr : Nat × Nat} (h : w.heap[g]? = some (.cells cur T fr)) :
    (sortWorldK arC 3 w g 0 n d os).heap[g]? = some (.cells (Go.Sort.putCells id 0 (Go.Sort.flatK arC 3 d) cur) T fr) := by
  unfold sortWorldK Go.Sort.grow Go.Sort.putRowK Go.Sort.putRow Go.Sort.mapBlock Go.Sort.ahead
  rw [Array.getElem?_append, if_pos (by simpa using lt_of_block h), Array.getElem?_modify, if_pos rfl]
  show (w.heap[g]?).map _ = _
  rw [h]
  rfl
theorem sw_size (w : World) (g n : Nat) (d : Array Ar) (os : Array Obj) : w.heap.size ≤ (sortWorldK arC 3 w g 0 n d os).heap.size := by
  unfold sortWorldK Go.Sort.grow Go.Sort.putRowK Go.Sort.putRow Go.Sort.mapBlock Go.Sort.ahead
  simp
theorem holds_ar {w : World} {base g cap : Nat} {L : List Ar} (h : w.ownsRow base 51 3 (.slice (some ⟨g, 0, none⟩) L.length cap) L.length (L.flatMap arC)) : Go.Sort.HoldsK arC 3 w g 0 L.toArray := by
  rcases h.2 with ⟨h', -⟩ | ⟨g', cap', cur, e1, e2, e3, e4⟩
  · cases h'
  · injection e1 with e1 _ _
    injection e1 with e1
    injection e1 with e1
    subst e1
    intro j hj
    have hsz : (Go.Sort.flatK arC 3 L.toArray).size = L.length * 3 := by unfold Go.Sort.flatK; simp
    rw [hsz] at hj
    refine ⟨?_, by rw [World.frozen?, e3]; rfl⟩
    rw [Nat.zero_add, h.cellAt j hj, Go.Sort.get_flatK arC 3 L.toArray j (by simpa using hj)]
    have hk : j / 3 < L.length := by omega
    have := flat_get arC_len L (j / 3) hk (j % 3) (by omega)
    rw [show j / 3 * 3 + j % 3 = j by omega] at this
    rw [this]
    have e5 : L.toArray[j / 3]! = L[j / 3] := by simp [hk]
    rw [e5]
    have hc : j % 3 = 0 ∨ j % 3 = 1 ∨ j % 3 = 2 := by omega
    rcases hc with hc | hc | hc <;> rw [hc] <;> rfl
theorem putCells_take (d : Array Ar) (cur : Array Value) (h : d.size * 3 ≤ cur.size) : (Go.Sort.putCells id 0 (Go.Sort.flatK arC 3 d) cur).toList.take (d.size * 3) = d.toList.flatMap arC := by
  have hl : (d.toList.flatMap arC).length = d.size * 3 := by rw [flat_len arC_len]; simp
  have hsz : (Go.Sort.flatK arC 3 d).size = d.size * 3 := by unfold Go.Sort.flatK; simp
  apply List.ext_getElem?
  intro j
  by_cases hj : j < d.size * 3
  · rw [List.getElem?_take_of_lt hj]
    have hk : j / 3 < d.toList.length := by simp; omega
    have := flat_get arC_len d.toList (j / 3) hk (j % 3) (by omega)
    rw [show j / 3 * 3 + j % 3 = j by omega] at this
    rw [this, Array.getElem?_toList, Go.Sort.putCells, Array.getElem?_mapIdx, Array.getElem?_eq_getElem (by omega)]
    simp only [Option.map_some]
    rw [if_pos ⟨Nat.zero_le _, by omega⟩, Nat.sub_zero, id, Go.Sort.get_flatK arC 3 d j hj]
    have e5 : d[j / 3]! = d.toList[j / 3] := by
      have : j / 3 < d.size := by omega
      simp [this]
    rw [e5]
    have hc : j % 3 = 0 ∨ j % 3 = 1 ∨ j % 3 = 2 := by omega
    rcases hc with hc | hc | hc <;> rw [hc] <;> rfl
  · rw [List.getElem?_eq_none (by rw [List.length_take]; omega), List.getElem?_eq_none (by omega)]
/-- What the sort leaves. -/
theorem ms_sorted {w : World} {base p g cap n : Nat} {L : List Ar} {d : Array Ar} {os : Array Obj} (h : MS w base p L) (hp : w.heap[p]? = some (.cells #[.slice (some ⟨g, 0, none⟩) L.length cap] 46 (0, 0))) (hd : d.toList.Perm L) :
    MS (sortWorldK arC 3 w g 0 n d os) base p d.toList ∧ Below base w (sortWorldK arC 3 w g 0 n d os) := by
  have hbase := h.base
  obtain ⟨v, h1, h2, h3, h4, h5⟩ := h
  rw [hp] at h1
  simp only [Option.some.injEq, Obj.cells.injEq, Array.mk.injEq, List.cons.injEq, and_true] at h1
  subst h1
  have hdl : d.toList.length = L.length := hd.length_eq
  obtain ⟨k1, k2⟩ := h3
  rcases k2 with ⟨k2, -⟩ | ⟨g', cap', cur, e1, e2, e3, e4, e5, e6, e7⟩
  · cases k2
  · injection e1 with e1 e8 e9
    injection e1 with e1
    injection e1 with e1
    subst e1; subst e9
    have hoth : ∀ (k : Nat) (cs : Array Value) (T : TypeId), T ≠ 51 → w.heap[k]? = some (.cells cs T (0, 0)) → (sortWorldK arC 3 w g 0 n d os).heap[k]? = some (.cells cs T (0, 0)) := by
      intro k cs T hT hk
      rw [sw_other w g n d os (lt_of_block hk) (fun e => by rw [e, e3] at hk; simp at hk; exact hT hk.2.symm)]
      exact hk
    refine ⟨⟨.slice (some ⟨g, 0, none⟩) L.length cap, hoth p _ _ (by decide) hp, h2, ⟨?_, .inr ⟨g, cap, _, by rw [hdl], e2, sw_row e3, by omega, e5, ?_, ?_⟩⟩, fun a ha => ?_, ?_⟩, ?_⟩
    · rw [flat_len arC_len]
    · unfold Go.Sort.putCells; simpa using e6
    · have := putCells_take d cur (by have : d.size = L.length := by simpa using hdl
                                      rw [e6, this]; exact Nat.mul_le_mul_right _ e4)
      simpa using this
    · obtain ⟨q1, q2⟩ := h4 a (hd.mem_iff.1 ha)
      exact ⟨q1, hoth _ _ _ (by decide) q2⟩
    · exact (hd.map Ar.blk).nodup_iff.2 h5
    · exact ⟨rfl, rfl, rfl, sw_size _ _ _ _ _, fun k hk => sw_other w g n d os (by omega) (by omega)⟩
end Go.Proofs.Ytogigmehclmjcaa
