/- inst.Is, whole; hasD, stackD, Writes. -/
import Derived.Test.YtkcgnmicaigjfaaDoorkI4
namespace Go.Proofs.YtkcgnmicaigjfaaDoor
set_option linter.unusedVariables false
set_option linter.unusedSimpArgs false
open Go.RowKit

theorem In.same {i j : In} (h : sameI i j = true) : j = i := by
  obtain ⟨a0, a1, a2, a3, a4, a5, a6, a7, a8, a9⟩ := i
  obtain ⟨b0, b1, b2, b3, b4, b5, b6, b7, b8, b9⟩ := j
  unfold sameI at h
  simp only [Bool.and_eq_true, beq_iff_eq] at h
  obtain ⟨⟨⟨⟨⟨⟨⟨⟨⟨rfl, rfl⟩, rfl⟩, rfl⟩, rfl⟩, rfl⟩, rfl⟩, rfl⟩, rfl⟩, rfl⟩ := h
  rfl
theorem InstIs_any (i : In) (w : World) (hw : Tab4 w) (hi : InB i) : Calls Tryd.prog 9 #[inV i] w (RetB (.bool (isI i)) w) := by
  by_cases h0 : shapeI i.op = 0
  · have : isI i = false := by unfold isI; rw [h0]; rfl
    rw [this]
    exact Is_no i w hw h0
  obtain ⟨j, hj⟩ : ∃ j, ownI (shapeI i.op) i = j := ⟨_, rfl⟩
  have eo : (i.op == j.op) = true := by rw [← hj]; simp [ownI]
  have hb : (shapeI i.op != 0) = true := by rw [bne_iff_ne]; exact h0
  have hI : isI i = (sameI i j && regsI i && numI (shapeI i.op) i) := by unfold isI; rw [hb, hj, Bool.true_and]
  rw [hI]
  cases e0 : (i.d == j.d)
  · have : sameI i j = false := by unfold sameI; rw [e0]; simp only [Bool.and_false, Bool.false_and]
    rw [this]
    exact Is_ne0 i j w hw h0 hj eo e0
  cases e1 : (i.n == j.n)
  · have : sameI i j = false := by unfold sameI; rw [e1]; simp only [Bool.and_false, Bool.false_and]
    rw [this]
    exact Is_ne1 i j w hw h0 hj eo e0 e1
  cases e2 : (i.m == j.m)
  · have : sameI i j = false := by unfold sameI; rw [e2]; simp only [Bool.and_false, Bool.false_and]
    rw [this]
    exact Is_ne2 i j w hw h0 hj eo e0 e1 e2
  cases e3 : (i.a == j.a)
  · have : sameI i j = false := by unfold sameI; rw [e3]; simp only [Bool.and_false, Bool.false_and]
    rw [this]
    exact Is_ne3 i j w hw h0 hj eo e0 e1 e2 e3
  cases e4 : (i.imm == j.imm)
  · have : sameI i j = false := by unfold sameI; rw [e4]; simp only [Bool.and_false, Bool.false_and]
    rw [this]
    exact Is_ne4 i j w hw h0 hj eo e0 e1 e2 e3 e4
  cases e5 : (i.mask == j.mask)
  · have : sameI i j = false := by unfold sameI; rw [e5]; simp only [Bool.and_false, Bool.false_and]
    rw [this]
    exact Is_ne5 i j w hw h0 hj eo e0 e1 e2 e3 e4 e5
  cases e6 : (i.shift == j.shift)
  · have : sameI i j = false := by unfold sameI; rw [e6]; simp only [Bool.and_false, Bool.false_and]
    rw [this]
    exact Is_ne6 i j w hw h0 hj eo e0 e1 e2 e3 e4 e5 e6
  cases e7 : (i.amount == j.amount)
  · have : sameI i j = false := by unfold sameI; rw [e7]; simp only [Bool.and_false, Bool.false_and]
    rw [this]
    exact Is_ne7 i j w hw h0 hj eo e0 e1 e2 e3 e4 e5 e6 e7
  cases e8 : (i.cond == j.cond)
  · have : sameI i j = false := by unfold sameI; rw [e8]; simp only [Bool.and_false, Bool.false_and]
    rw [this]
    exact Is_ne8 i j w hw h0 hj eo e0 e1 e2 e3 e4 e5 e6 e7 e8
  have hs : sameI i j = true := by unfold sameI; rw [eo, e0, e1, e2, e3, e4, e5, e6, e7, e8]; rfl
  obtain rfl := In.same hs
  rw [hs, Bool.true_and]
  exact Is_yes _ w hw h0 hi hj

def stackDb (op : Int) : Bool := op == 4 || op == 5 || op == 8 || op == 9 || op == 10
set_option maxHeartbeats 400000 in
theorem hasD_any (s : Int) (w : World) : Calls Tryd.prog 34 #[.int .i64 s] w (Ret (.bool (hasDb s)) w) := by
  unfold hasDb
  by_cases h1 : 1 ≤ s
  · rw [decide_eq_true h1]
    by_cases h2 : s ≤ 10
    · rw [decide_eq_true h2]
      go_enter Tryd.func34, Tryd.ntmps34
      go_wp2
      go_ret
      exact ret_bool rfl
    · rw [decide_eq_false h2]
      go_enter Tryd.func34, Tryd.ntmps34
      go_wp2
      go_ret
      exact ret_bool rfl
  · rw [decide_eq_false h1]
    go_enter Tryd.func34, Tryd.ntmps34
    go_wp2
    go_ret
    exact ret_bool rfl
set_option maxHeartbeats 400000 in
theorem stackD_any (op : Int) (w : World) : Calls Tryd.prog 49 #[.int .i64 op] w (Ret (.bool (stackDb op)) w) := by
  by_cases h : op = 4 ∨ op = 5 ∨ op = 8 ∨ op = 9 ∨ op = 10
  · rcases h with rfl | rfl | rfl | rfl | rfl
    all_goals
      go_enter Tryd.func49, Tryd.ntmps49
      go_wp2
      go_ret
      exact ret_bool rfl
  · have q4 : (op == 4) = false := by rw [beq_eq_false_iff_ne]; omega
    have q5 : (op == 5) = false := by rw [beq_eq_false_iff_ne]; omega
    have q8 : (op == 8) = false := by rw [beq_eq_false_iff_ne]; omega
    have q9 : (op == 9) = false := by rw [beq_eq_false_iff_ne]; omega
    have q10 : (op == 10) = false := by rw [beq_eq_false_iff_ne]; omega
    have hf : stackDb op = false := by unfold stackDb; rw [q4, q5, q8, q9, q10]; rfl
    rw [hf]
    clear h hf
    go_enter Tryd.func49, Tryd.ntmps49
    go_wp2
    go_ret
    exact ret_bool rfl
end Go.Proofs.YtkcgnmicaigjfaaDoor
