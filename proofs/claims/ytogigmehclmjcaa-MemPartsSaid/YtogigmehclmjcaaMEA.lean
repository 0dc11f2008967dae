/- mem: what is stored is loaded, plain. -/
import Derived.Test.YtogigmehclmjcaaME6
namespace Go.Proofs.Ytogigmehclmjcaa
set_option linter.unusedVariables false
set_option linter.unusedSimpArgs false
open Go.RowKit

theorem hit_put (b : Ar) (x n v y m : Nat) : hit y m (putB b x n v) = hit y m b := by
  unfold hit putB
  simp only [layB_len]
theorem find_put (L : List Ar) (x n v y m : Nat) : findA (putA L x n v) y m = (findA L y m).map fun b => if hit x n b = true then putB b x n v else b := by
  unfold findA putA
  rw [List.find?_map]
  congr 2
  funext b
  simp only [Function.comp]
  by_cases h : hit x n b = true
  · rw [if_pos h, hit_put]
  · rw [if_neg h]
theorem good_put {L : List Ar} (h : Good L) (x n v : Nat) : Good (putA L x n v) := by
  obtain ⟨h1, h2, h3⟩ := h
  have hg : ∀ (i : Nat) (hi : i < L.length), (putA L x n v)[i]'(by unfold putA; simpa using hi) = if hit x n L[i] = true then putB L[i] x n v else L[i] := by
    intro i hi; unfold putA; simp
  have hp : ∀ b : Ar, (if hit x n b = true then putB b x n v else b).pos = b.pos := by intro b; split <;> rfl
  have hl : ∀ b : Ar, (if hit x n b = true then putB b x n v else b).bs.length = b.bs.length := by
    intro b; split
    · exact layB_len _ _ _ _
    · rfl
  have hlen : (putA L x n v).length = L.length := by unfold putA; simp
  refine ⟨fun i j hi hj hij => ?_, fun a ha => ?_, by rw [hlen]; exact h3⟩
  · rw [hlen] at hi hj
    rw [hg i hi, hg j hj, hp, hl, hp]
    exact h1 i j hi hj hij
  · unfold putA at ha
    obtain ⟨b, hb, rfl⟩ := List.mem_map.1 ha
    obtain ⟨g1, g2, g3⟩ := h2 b hb
    unfold GoodA
    rw [hp, hl]
    exact ⟨g1, g2, g3⟩
theorem leB_get (n v j : Nat) (h : j < n) : (leB n v)[j]? = some (UInt8.ofNat (v / 256 ^ j)) := by
  induction n generalizing v j with
  | zero => omega
  | succ n ih =>
    rw [leB]
    cases j with
    | zero => simp
    | succ j =>
      rw [List.getElem?_cons_succ, ih (v / 256) j (by omega), Nat.div_div_eq_div_mul, Nat.pow_succ, Nat.mul_comm (256 ^ j)]
theorem seg_put {a : Ar} {x n v : Nat} (h1 : a.pos ≤ x) (h2 : x + n ≤ a.pos + a.bs.length) : seg (putB a x n v) x n = leB n v := by
  apply List.ext_getElem?
  intro j
  unfold seg putB
  simp only []
  by_cases hj : j < n
  · rw [List.getElem?_take_of_lt hj, List.getElem?_drop, layB_get _ _ _ _ _ (by omega), if_pos (by omega), leB_get _ _ _ hj, Nat.add_sub_cancel_left]
  · rw [List.getElem?_eq_none (by rw [List.length_take]; omega), List.getElem?_eq_none (by rw [leB_len]; omega)]
theorem seg_same {a : Ar} {x n v y : Nat} (h1 : a.pos ≤ x) (k1 : a.pos ≤ y) (k2 : y + 1 ≤ a.pos + a.bs.length) (ho : ¬ (x ≤ y ∧ y - x < n)) : seg (putB a x n v) y 1 = seg a y 1 := by
  apply List.ext_getElem?
  intro j
  unfold seg putB
  simp only []
  by_cases hj : j < 1
  · rw [List.getElem?_take_of_lt hj, List.getElem?_drop, List.getElem?_take_of_lt hj, List.getElem?_drop, layB_get _ _ _ _ _ (by omega), if_neg (by omega)]
  · rw [List.getElem?_eq_none (by rw [List.length_take]; omega), List.getElem?_eq_none (by rw [List.length_take]; omega)]
/-- What a store does to what is loaded. -/
theorem load_err (L : List Ar) (x : Nat) (n : Int) (v y : Nat) (m : Int) : (loadA (storeA L x n v) y m).2 = (loadA L y m).2 := by
  unfold storeA
  split
  · unfold loadA
    rw [find_put]
    split
    · rfl
    · cases findA L y m.toNat <;> rfl
  · rfl
theorem load_own (L : List Ar) (x : Nat) (n : Int) (v : Nat) (hv : v < 18446744073709551616) (h : storeE L x n = 0) : loadA (storeA L x n v) x n = ((if n = 1 then v % 256 else v), 0) ∧ (n = 1 ∨ n = 8) := by
  have hs : storeA L x n v = putA L x n.toNat v := by unfold storeA; rw [if_pos h]
  unfold storeE at h
  by_cases hn : n ≠ 1 ∧ n ≠ 8
  · rw [if_pos hn] at h; exact absurd h (by decide)
  · rw [if_neg hn] at h
    have hn' : n = 1 ∨ n = 8 := by omega
    refine ⟨?_, hn'⟩
    cases hf : findA L x n.toNat with
    | none => rw [hf] at h; exact absurd h (by decide)
    | some a =>
      obtain ⟨f1, f2, f3⟩ := find_mem hf
      have hh : hit x n.toNat a = true := by unfold hit; simp [f2, f3]
      rw [hs]
      unfold loadA
      rw [if_neg hn, find_put, hf]
      simp only [Option.map_some, if_pos hh]
      rw [seg_put f2 f3]
      rcases hn' with rfl | rfl
      · show (leV (leB 1 v), (0 : Int)) = _
        rw [if_pos rfl]
        simp [leB, leV]
      · show (leV (leB 8 v), (0 : Int)) = _
        rw [if_neg (by decide), leV_leB 8 v hv]
theorem load_other (L : List Ar) (x : Nat) (n : Int) (v y : Nat) (ho : ¬ (x ≤ y ∧ ((y - x : Nat) : Int) < n)) : loadA (storeA L x n v) y 1 = loadA L y 1 := by
  unfold storeA
  split
  · unfold loadA
    rw [find_put]
    rw [if_neg (by decide), if_neg (by decide)]
    cases hf : findA L y (1 : Int).toNat with
    | none => rfl
    | some a =>
      obtain ⟨f1, f2, f3⟩ := find_mem hf
      simp only [Option.map_some]
      split
      · rename_i hh
        unfold hit at hh
        simp only [Bool.and_eq_true, decide_eq_true_eq] at hh
        have := seg_same (v := v) hh.1 f2 f3 (n := n.toNat) (x := x) (by omega)
        rw [show seg (putB a x n.toNat v) y (1 : Int).toNat = seg a y (1 : Int).toNat from this]
      · rfl
  · rfl
theorem store_bad (L : List Ar) (x : Nat) (n : Int) (v : Nat) (h : storeE L x n ≠ 0) : storeA L x n v = L := by unfold storeA; rw [if_neg h]
theorem good_store {L : List Ar} (h : Good L) (x : Nat) (n : Int) (v : Nat) : Good (storeA L x n v) := by
  unfold storeA
  split
  · exact good_put h _ _ _
  · exact h
theorem load_lt (L : List Ar) (x : Nat) (n : Int) : (loadA L x n).1 < 18446744073709551616 := by
  unfold loadA
  split
  · decide
  · rename_i hn
    cases hf : findA L x n.toNat with
    | none => exact Nat.zero_lt_succ _
    | some a =>
      obtain ⟨f1, f2, f3⟩ := find_mem hf
      have h1 := leV_lt (seg a x n.toNat)
      rw [seg_len f2 f3] at h1
      have : n = 1 ∨ n = 8 := by omega
      rcases this with rfl | rfl
      · exact Nat.lt_trans h1 (by decide)
      · exact h1
end Go.Proofs.Ytogigmehclmjcaa
