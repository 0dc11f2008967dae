/- inst: Reads. -/
import Derived.Test.YtkcgnmicaigjfaaDoorhD
namespace Go.Proofs.YtkcgnmicaigjfaaDoor
set_option linter.unusedVariables false
set_option linter.unusedSimpArgs false
open Go.ChangeShapes Go.WideShapes Go.Deep Go.RowKit

def kindB (op : Int) (bn bm b6 : Bool) : Bool := (hasNb (shapeI op) == bn) && (hasMb (shapeI op) == bm) && ((shapeI op == 6) == b6)
def otherB (op : Int) : Bool := op != 3 && op != 23 && op != 25 && op != 32 && op != 33 && op != 37
theorem kinds : ∀ k, k < 40 → (k = 0 ∨ (k = 3 ∧ kindB 3 false false false = true) ∨ (k = 32 ∧ kindB 32 false false false = true) ∨ (k = 33 ∧ kindB 33 false false false = true) ∨ (k = 37 ∧ kindB 37 false false false = true) ∨
    (k = 23 ∧ kindB 23 true false false = true) ∨ (k = 25 ∧ kindB 25 true false false = true) ∨
    (otherB (k : Nat) = true ∧ (kindB (k : Nat) false false false = true ∨ kindB (k : Nat) true false false = true ∨ kindB (k : Nat) true true false = true ∨ kindB (k : Nat) true true true = true))) := by decide +kernel
theorem kindB_of {op : Int} {bn bm b6 : Bool} (h : kindB op bn bm b6 = true) : hasNb (shapeI op) = bn ∧ hasMb (shapeI op) = bm ∧ (shapeI op == 6) = b6 := by
  unfold kindB at h
  simp only [Bool.and_eq_true, beq_iff_eq] at h
  exact ⟨h.1.1, h.1.2, h.2⟩
theorem otherB_of {op : Int} (h : otherB op = true) : (op == 3) = false ∧ (op == 23) = false ∧ (op == 25) = false ∧ (op == 32) = false ∧ (op == 33) = false ∧ (op == 37) = false := by
  unfold otherB at h
  simp only [Bool.and_eq_true, bne_iff_ne] at h
  refine ⟨?_, ?_, ?_, ?_, ?_, ?_⟩ <;> (rw [beq_eq_false_iff_ne]; omega)
theorem regs_of {i : In} (h : isI i = true) : 0 ≤ i.d ∧ i.d ≤ 31 ∧ 0 ≤ i.n ∧ i.n ≤ 31 ∧ 0 ≤ i.m ∧ i.m ≤ 31 ∧ 0 ≤ i.a ∧ i.a ≤ 31 := by
  unfold isI at h
  simp only [Bool.and_eq_true] at h
  have := h.1.2
  unfold regsI at this
  simp at this
  omega
theorem op_of {i : In} (h : isI i = true) : 1 ≤ i.op ∧ i.op ≤ 39 := by
  unfold isI at h
  simp only [Bool.and_eq_true] at h
  have := h.1.1.1
  apply Classical.byContradiction
  intro hc
  have e : shapeI i.op = 0 := by unfold shapeI; rw [if_pos (by omega)]
  rw [e] at this; simp at this

set_option maxHeartbeats 1000000 in
theorem Reads_no (i : In) (w : World) (hw : Tab4 w) (hi : InB i) (hf : isI i = false) : Calls Tryd.prog 54 #[inV i] w (RetL [] w) := by
  have HIs : Hid (∀ w, Tab4 w → Calls Tryd.prog 9 #[inV i] w (RetB (.bool false) w)) := Lib.hid fun w hw => by have := InstIs_any i w hw hi; rwa [hf] at this
  obtain ⟨o, d, n, m, a, x, k, h, t, c⟩ := i
  have HT := Lib.hid hw
  have HBA := Lib.hid ((Below.refl w.heap.size w).alloc (Nat.le_refl _) (.cells (inC ⟨o, d, n, m, a, x, k, h, t, c⟩) 24))
  clear hf hw hi
  go_enter Tryd.func54, Tryd.ntmps54
  go_wp2_with fail
  refine (HIs.out _ (HT.out.below HBA.out)).mono ?_
  rintro e w1 ⟨rfl, hb⟩
  have HB := Lib.hid (after HBA.out hb)
  clear hb
  go_wp2
  go_ret
  exact ⟨none, 0, rfl, SL.nil _ _ _, fun _ => ⟨rfl, rfl⟩, HB.out⟩

theorem Reads_any (i : In) (w : World) (hw : Tab4 w) (hi : InB i) : Calls Tryd.prog 54 #[inV i] w (RetL (readsI i) w) := by
  cases hb : isI i
  · have : readsI i = [] := by unfold readsI; rw [hb]; rfl
    rw [this]
    exact Reads_no i w hw hi hb
  · obtain ⟨r0, r1, r2, r3, r4, r5, r6, r7⟩ := regs_of hb
    obtain ⟨o1, o2⟩ := op_of hb
    have hIs : ∀ w, Tab4 w → Calls Tryd.prog 9 #[inV i] w (RetB (.bool true) w) := fun w hw => by have := InstIs_any i w hw hi; rwa [hb] at this
    have hR : readsI i = riseL (readF i) := by unfold readsI; rw [hb]; rfl
    rw [hR]
    clear hR hb hi
    obtain ⟨o, d, n, m, a, x, k, h, t, c⟩ := i
    simp only at r0 r1 r2 r3 r4 r5 r6 r7 o1 o2
    obtain ⟨d, rfl⟩ := Int.eq_ofNat_of_zero_le r0
    obtain ⟨n, rfl⟩ := Int.eq_ofNat_of_zero_le r2
    obtain ⟨m, rfl⟩ := Int.eq_ofNat_of_zero_le r4
    obtain ⟨a, rfl⟩ := Int.eq_ofNat_of_zero_le r6
    obtain ⟨o, rfl⟩ := Int.eq_ofNat_of_zero_le (show 0 ≤ o by omega)
    have hSh : ∀ w, Tab4 w → Calls Tryd.prog 14 #[.int .i64 (o : Int)] w (Ret (.int .i64 (shapeI o)) w) := fun w h => Shape_any o w h
    have hN : ∀ w, Calls Tryd.prog 35 #[.int .i64 (shapeI o)] w (Ret (.bool (hasNb (shapeI o))) w) := fun w => hasN_any _ w
    have hM : ∀ w, Calls Tryd.prog 36 #[.int .i64 (shapeI o)] w (Ret (.bool (hasMb (shapeI o))) w) := fun w => hasM_any _ w
    have hSt : ∀ w, Calls Tryd.prog 70 #[.int .i64 (shapeI o)] w (Ret (.bool (stackNb (shapeI o))) w) := fun w => stackN_any _ w
    rcases kinds o (by omega) with rfl | ⟨rfl, hk⟩ | ⟨rfl, hk⟩ | ⟨rfl, hk⟩ | ⟨rfl, hk⟩ | ⟨rfl, hk⟩ | ⟨rfl, hk⟩ | ⟨ho, hk | hk | hk | hk⟩
    · omega
    · obtain ⟨e1, e2, e3⟩ := kindB_of hk
      change Calls Tryd.prog 54 #[inV ⟨3, d, n, m, a, x, k, h, t, c⟩] w (RetL (riseL (readF ⟨3, d, n, m, a, x, k, h, t, c⟩)) w)
      have := reads_FFF_3 x k h t c d n m a (shapeI 3) (stackNb (shapeI 3)) w hw (by omega) (by omega) (by omega) (by omega) e3 hIs hSh (fun w => by rw [← e1]; exact hN w) (fun w => by rw [← e2]; exact hM w) hSt
      unfold readF
      simp only [e1, e2, e3, Int.toNat_natCast, if_true, if_false, Bool.false_eq_true]
      exact this
    · obtain ⟨e1, e2, e3⟩ := kindB_of hk
      change Calls Tryd.prog 54 #[inV ⟨32, d, n, m, a, x, k, h, t, c⟩] w (RetL (riseL (readF ⟨32, d, n, m, a, x, k, h, t, c⟩)) w)
      have := reads_FFF_32 x k h t c d n m a (shapeI 32) (stackNb (shapeI 32)) w hw (by omega) (by omega) (by omega) (by omega) e3 hIs hSh (fun w => by rw [← e1]; exact hN w) (fun w => by rw [← e2]; exact hM w) hSt
      unfold readF
      simp only [e1, e2, e3, Int.toNat_natCast, if_true, if_false, Bool.false_eq_true]
      exact this
    · obtain ⟨e1, e2, e3⟩ := kindB_of hk
      change Calls Tryd.prog 54 #[inV ⟨33, d, n, m, a, x, k, h, t, c⟩] w (RetL (riseL (readF ⟨33, d, n, m, a, x, k, h, t, c⟩)) w)
      have := reads_FFF_33 x k h t c d n m a (shapeI 33) (stackNb (shapeI 33)) w hw (by omega) (by omega) (by omega) (by omega) e3 hIs hSh (fun w => by rw [← e1]; exact hN w) (fun w => by rw [← e2]; exact hM w) hSt
      unfold readF
      simp only [e1, e2, e3, Int.toNat_natCast, if_true, if_false, Bool.false_eq_true]
      exact this
    · obtain ⟨e1, e2, e3⟩ := kindB_of hk
      change Calls Tryd.prog 54 #[inV ⟨37, d, n, m, a, x, k, h, t, c⟩] w (RetL (riseL (readF ⟨37, d, n, m, a, x, k, h, t, c⟩)) w)
      have := reads_FFF_37 x k h t c d n m a (shapeI 37) (stackNb (shapeI 37)) w hw (by omega) (by omega) (by omega) (by omega) e3 hIs hSh (fun w => by rw [← e1]; exact hN w) (fun w => by rw [← e2]; exact hM w) hSt
      unfold readF
      simp only [e1, e2, e3, Int.toNat_natCast, if_true, if_false, Bool.false_eq_true]
      exact this
    · obtain ⟨e1, e2, e3⟩ := kindB_of hk
      change Calls Tryd.prog 54 #[inV ⟨23, d, n, m, a, x, k, h, t, c⟩] w (RetL (riseL (readF ⟨23, d, n, m, a, x, k, h, t, c⟩)) w)
      have := reads_TFF_23 x k h t c d n m a (shapeI 23) (stackNb (shapeI 23)) w hw (by omega) (by omega) (by omega) (by omega) e3 hIs hSh (fun w => by rw [← e1]; exact hN w) (fun w => by rw [← e2]; exact hM w) hSt
      unfold readF
      simp only [e1, e2, e3, Int.toNat_natCast, if_true, if_false, Bool.false_eq_true]
      exact this
    · obtain ⟨e1, e2, e3⟩ := kindB_of hk
      change Calls Tryd.prog 54 #[inV ⟨25, d, n, m, a, x, k, h, t, c⟩] w (RetL (riseL (readF ⟨25, d, n, m, a, x, k, h, t, c⟩)) w)
      have := reads_TFF_25 x k h t c d n m a (shapeI 25) (stackNb (shapeI 25)) w hw (by omega) (by omega) (by omega) (by omega) e3 hIs hSh (fun w => by rw [← e1]; exact hN w) (fun w => by rw [← e2]; exact hM w) hSt
      unfold readF
      simp only [e1, e2, e3, Int.toNat_natCast, if_true, if_false, Bool.false_eq_true]
      exact this
    · obtain ⟨e1, e2, e3⟩ := kindB_of hk
      obtain ⟨q1, q2, q3, q4, q5, q6⟩ := otherB_of ho
      have n1 : ¬ ((o : Int) = 3 ∨ (o : Int) = 23 ∨ (o : Int) = 25 ∨ (o : Int) = 32 ∨ (o : Int) = 33) := by simp only [beq_eq_false_iff_ne] at q1 q2 q3 q4 q5; omega
      have n2 : ¬ (o : Int) = 37 := by simpa using q6
      have := reads_FFF_o (o : Int) x k h t c d n m a (shapeI o) (stackNb (shapeI o)) w hw q1 q2 q3 q4 q5 q6 (by omega) (by omega) (by omega) (by omega) e3 hIs hSh (fun w => by rw [← e1]; exact hN w) (fun w => by rw [← e2]; exact hM w) hSt
      unfold readF
      simp only [e1, e2, e3, if_neg n1, if_neg n2, Int.toNat_natCast, if_true, if_false, Bool.false_eq_true]
      exact this
    · obtain ⟨e1, e2, e3⟩ := kindB_of hk
      obtain ⟨q1, q2, q3, q4, q5, q6⟩ := otherB_of ho
      have n1 : ¬ ((o : Int) = 3 ∨ (o : Int) = 23 ∨ (o : Int) = 25 ∨ (o : Int) = 32 ∨ (o : Int) = 33) := by simp only [beq_eq_false_iff_ne] at q1 q2 q3 q4 q5; omega
      have n2 : ¬ (o : Int) = 37 := by simpa using q6
      have := reads_TFF_o (o : Int) x k h t c d n m a (shapeI o) (stackNb (shapeI o)) w hw q1 q2 q3 q4 q5 q6 (by omega) (by omega) (by omega) (by omega) e3 hIs hSh (fun w => by rw [← e1]; exact hN w) (fun w => by rw [← e2]; exact hM w) hSt
      unfold readF
      simp only [e1, e2, e3, if_neg n1, if_neg n2, Int.toNat_natCast, if_true, if_false, Bool.false_eq_true]
      exact this
    · obtain ⟨e1, e2, e3⟩ := kindB_of hk
      obtain ⟨q1, q2, q3, q4, q5, q6⟩ := otherB_of ho
      have n1 : ¬ ((o : Int) = 3 ∨ (o : Int) = 23 ∨ (o : Int) = 25 ∨ (o : Int) = 32 ∨ (o : Int) = 33) := by simp only [beq_eq_false_iff_ne] at q1 q2 q3 q4 q5; omega
      have n2 : ¬ (o : Int) = 37 := by simpa using q6
      have := reads_TTF_o (o : Int) x k h t c d n m a (shapeI o) (stackNb (shapeI o)) w hw q1 q2 q3 q4 q5 q6 (by omega) (by omega) (by omega) (by omega) e3 hIs hSh (fun w => by rw [← e1]; exact hN w) (fun w => by rw [← e2]; exact hM w) hSt
      unfold readF
      simp only [e1, e2, e3, if_neg n1, if_neg n2, Int.toNat_natCast, if_true, if_false, Bool.false_eq_true]
      exact this
    · obtain ⟨e1, e2, e3⟩ := kindB_of hk
      obtain ⟨q1, q2, q3, q4, q5, q6⟩ := otherB_of ho
      have n1 : ¬ ((o : Int) = 3 ∨ (o : Int) = 23 ∨ (o : Int) = 25 ∨ (o : Int) = 32 ∨ (o : Int) = 33) := by simp only [beq_eq_false_iff_ne] at q1 q2 q3 q4 q5; omega
      have n2 : ¬ (o : Int) = 37 := by simpa using q6
      have := reads_TTT_o (o : Int) x k h t c d n m a (shapeI o) (stackNb (shapeI o)) w hw q1 q2 q3 q4 q5 q6 (by omega) (by omega) (by omega) (by omega) e3 hIs hSh (fun w => by rw [← e1]; exact hN w) (fun w => by rw [← e2]; exact hM w) hSt
      unfold readF
      simp only [e1, e2, e3, if_neg n1, if_neg n2, Int.toNat_natCast, if_true, if_false, Bool.false_eq_true]
      exact this
end Go.Proofs.YtkcgnmicaigjfaaDoor
