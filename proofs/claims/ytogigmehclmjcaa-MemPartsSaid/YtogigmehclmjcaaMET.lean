/- mem: slices.SortFunc over the areas. -/
import Derived.Test.YtogigmehclmjcaaMES
import Derived.Shelf.SlSortCmp.NoneTotal
namespace Go.Proofs.Ytogigmehclmjcaa
set_option linter.unusedVariables false
set_option linter.unusedSimpArgs false
open Go.ChangeShapes Go.WideShapes Go.Deep Go.RowKit

set_option maxHeartbeats 2000000 in
theorem sort_any {w : World} {base p : Nat} {v : Value} {L : List Ar} (h : MS w base p L) (hp : w.heap[p]? = some (.cells #[v] 46 (0, 0))) (hl : L.length ≤ 1000) :
    Calls Try.prog 15 #[v, .func (.func 16) #[] #[]] w fun e w' => e = .returned (.tuple #[]) ∧ ∃ L' : List Ar, L'.Perm L ∧ Rises L' ∧ MS w' base p L' ∧ Below base w w' := by
  have hbase := h.base
  have hown : w.ownsRow base 51 3 v L.length (L.flatMap arC) := by
    obtain ⟨v', h1, h2, h3, -⟩ := h
    rw [hp] at h1
    simp only [Option.some.injEq, Obj.cells.injEq, Array.mk.injEq, List.cons.injEq, and_true] at h1
    subst h1; exact h3
  by_cases h0 : L.length = 0
  · obtain ⟨a, c, rfl⟩ := owns_form hown
    rw [h0]
    have := AnyF.slices_SortFunc_none Try.sortAr a c (.func (.func 16) #[] #[]) w
    change Calls Try.prog 15 _ _ _ at this
    refine this.mono ?_
    rintro e w' ⟨he, rfl⟩
    exact ⟨he, L, List.Perm.refl _, fun i j hi => by omega, h, Below.refl _ _⟩
  · obtain ⟨g, cap, rfl, hbg, hg, -⟩ := owns_cells hown (by omega)
    have eg : ∀ args w, (callFunc 16 args).run Try.prog w = .ok (.enter 16 args) w := enters_of Try.func16 (by kernel_rfl) rfl
    have hcon := AnyQ.slices_SortFunc Try.sortAr 3 Try.isAgg51 Try.sizeOf51 arC arC_len (fun x v hv => by simp [arC] at hv; rcases hv with rfl | rfl | rfl <;> rfl) cmpA swoA 16 #[] g 0 cap L.toArray w eg (cmp_lays g 0 L.toArray.size w) (holds_ar hown) hg (by simp; omega)
    change Calls Try.prog 15 _ _ _ at hcon
    rw [List.size_toArray] at hcon
    refine hcon.mono ?_
    rintro e w' ⟨he, d, n, os, ⟨hs, -, hperm⟩, hsort, rfl⟩
    have hds : d.size = L.length := by simpa using hs
    have hP : d.toList.Perm L := by
      have e1 : (d.extract 0 L.length) = d := by rw [← hds]; exact Array.extract_size
      have e2 : (L.toArray.extract 0 L.length) = L.toArray := by
        have : L.length = L.toArray.size := by simp
        rw [this]; exact Array.extract_size
      rw [e1, e2] at hperm
      exact hperm
    obtain ⟨q1, q2⟩ := ms_sorted (n := n) (os := os) h hp hP
    refine ⟨he, d.toList, hP, fun i j hi hj hij => ?_, q1, q2⟩
    rcases Nat.lt_or_ge i j with h1 | h1
    · have := hsort i j (Nat.zero_le _) h1 (by rw [← hds]; simpa using hj)
      rw [lt_cmpA] at this
      have hi' : i < d.size := by simpa using hi
      have hj' : j < d.size := by simpa using hj
      simp only [getElem!_pos, hi', hj', decide_eq_false_iff_not] at this
      simp only [Array.getElem_toList]
      omega
    · obtain rfl : i = j := by omega
      exact Nat.le_refl _
end Go.Proofs.Ytogigmehclmjcaa
