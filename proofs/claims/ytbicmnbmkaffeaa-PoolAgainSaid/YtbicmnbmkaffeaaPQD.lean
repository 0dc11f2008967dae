/- The law PoolSame. -/
import Derived.Test.YtbicmnbmkaffeaaPQC
namespace Go.Proofs.Ytbicmnbmkaffeaa
set_option linter.unusedVariables false
set_option linter.unusedSimpArgs false
open Go.ChangeShapes Go.WideShapes Go.Deep Go.RowKit

/-- What Put does, in one: to what the pool holds, and what it tells. -/
theorem Put_any {w : World} {base p : Nat} {l : List Lt} (h : PS w base p l) (hg : ∀ y ∈ l, GoodL y) (hd : l.Nodup) (h64 : l.length ≤ 64) (n : Nd) (hn : GoodN n) :
    ∃ (l' : List Lt) (r : Int × Int), (∀ w', PS w' base p l → Calls Try.prog 13 #[.pointer (some ⟨p, 0, none⟩), ndV n] w' (PutP base p l' r w')) ∧ (∀ y ∈ l', GoodL y) ∧ l'.Nodup ∧ l'.length ≤ 64 ∧
      ((r.2 = 0 ∧ (ofL n).2 = 0 ∧ ∃ i : Nat, r.1 = i ∧ l'[i]? = some (ofL n).1 ∧ ((l' = l ∧ (ofL n).1 ∈ l) ∨ (l' = l ++ [(ofL n).1] ∧ (ofL n).1 ∉ l ∧ i = l.length))) ∨ (l' = l ∧ r.1 = 0 ∧ ((r.2 = 1 ∧ (ofL n).2 = 1) ∨ (r.2 = 2 ∧ (ofL n).2 = 0 ∧ l.length = 64 ∧ (ofL n).1 ∉ l)))) := by
  by_cases h0 : (ofL n).2 = 0
  · by_cases hm : (ofL n).1 ∈ l
    · obtain ⟨i, hi⟩ := List.mem_iff_getElem?.1 hm
      exact ⟨l, (i, 0), fun w' h' => Put_old h' hg hd n hn h0 i hi, hg, hd, h64, .inl ⟨rfl, h0, i, rfl, hi, .inl ⟨rfl, hm⟩⟩⟩
    · by_cases hf : l.length = 64
      · exact ⟨l, (0, 2), fun w' h' => Put_full h' hg hd n hn h0 hm hf, hg, hd, h64, .inr ⟨rfl, rfl, .inr ⟨rfl, h0, hf, hm⟩⟩⟩
      · refine ⟨l ++ [(ofL n).1], (l.length, 0), fun w' h' => Put_new h' hg hd n hn h0 hm (by omega), ?_, ?_, by rw [List.length_append]; simp; omega, .inl ⟨rfl, h0, l.length, rfl, by simp, .inr ⟨rfl, hm, rfl⟩⟩⟩
        · intro y hy
          rcases List.mem_append.1 hy with h1 | h1
          · exact hg y h1
          · rw [List.mem_singleton.1 h1]; exact ofL_good hn
        · refine List.nodup_append.2 ⟨hd, by simp, fun a ha b hb => ?_⟩
          rw [List.mem_singleton.1 hb]
          intro e; subst e; exact hm ha
  · have hb := ofL_bad h0
    refine ⟨l, (0, 1), fun w' h' => ?_, hg, hd, h64, .inr ⟨rfl, rfl, .inl ⟨rfl, by rw [hb]⟩⟩⟩
    have := Put_bad h' n hn h0
    rwa [hb] at this
end Go.Proofs.Ytbicmnbmkaffeaa
