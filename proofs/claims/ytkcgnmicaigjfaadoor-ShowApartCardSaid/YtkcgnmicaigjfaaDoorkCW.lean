/- What is read of an instruction's word is the instruction; the word of what is read of a word is the word. The word of an instruction and the instruction of a word turn one another back; no function of the program in sight. -/
import Derived.Test.YtkcgnmicaigjfaaDoorkCY
namespace Go.Proofs.YtkcgnmicaigjfaaDoor
set_option linter.unusedVariables false
set_option linter.unusedSimpArgs false
open Go.RowKit

theorem fw_of {w a n : Nat} {v : Int} (h : w / 2 ^ a % 2 ^ n = v.toNat) (hv : 0 ≤ v) : fw w a n = v := by unfold fw; omega
theorem of_fw (w a n : Nat) : w / 2 ^ a % 2 ^ n = (fw w a n).toNat := by unfold fw; omega
theorem div_mul (y z : Int) (hz : z ≠ 0) : (z * y).tdiv z = y := Int.mul_tdiv_cancel_left _ hz
theorem enc_pat {k : Nat} (hI : isS k = true) (hk : k < 18446744073709551616) : ∃ a b c : Int, encS k = (a, b, c, 0) ∧ 0 ≤ a ∧ a ≤ 1 ∧ 0 ≤ b ∧ b ≤ 63 ∧ 0 ≤ c ∧ c ≤ 63 ∧ decS a b c = ((k : Int), 0) := by
  rcases pat_or k hk with ⟨p, r, s, h⟩ | h
  · refine ⟨_, _, _, h.encS, ?_, ?_, ?_, ?_, ?_, ?_, h.decS⟩
    all_goals
      have h1 := h.one
      have h2 := h.less
      have h3 := h.turn
      rcases h.size with e | e | e | e | e | e <;> subst e <;> simp [upperS, leadS] <;> omega
  · rw [isS_none hk h] at hI; cases hI
theorem dec_err {n r s : Int} : (∃ a, decS n r s = (a, 0)) ∨ (decS n r s).1 = 0 ∧ (decS n r s).2 ≠ 0 := by
  unfold decS
  split
  · right; simp
  · split
    · right; simp
    · left; exact ⟨_, rfl⟩
theorem dec_enc {n r s : Int} (h : isS (decS n r s).1.toNat = true) : encS (decS n r s).1.toNat = (n, r, s, 0) ∧ decS n r s = ((decS n r s).1, 0) := by
  rcases @dec_err n r s with ⟨a, e⟩ | ⟨e, -⟩
  · obtain ⟨k, r', s', hp, h0, rfl, rfl, rfl⟩ := dec_pat e
    rw [e]
    exact ⟨hp.encS, rfl⟩
  · rw [e] at h; exact absurd h (by decide +kernel)
theorem dec_lt {n r s a : Int} (h : decS n r s = (a, 0)) : 0 ≤ a ∧ a < 18446744073709551616 := by
  obtain ⟨k, r', s', hp, h0, -⟩ := dec_pat h
  have := hp.lt
  omega
theorem sgn21 {a b : Int} (ha : 0 ≤ a) (ha2 : a < 524288) (hb : 0 ≤ b) (hb2 : b < 4) : 4 * (sgn a 19).1 + b = (sgn (4 * a + b) 21).1 := by
  unfold sgn
  simp only [Int.reduceToNat, Nat.reduceSub, Int.reducePow]
  repeat' split
  all_goals (try simp only [])
  all_goals omega
theorem pck_lit {v : Int} {n : Nat} (h1 : 1 ≤ n) (h2 : n ≤ 32) (c : - 2 ^ (n - 1) ≤ v) (d : v < 2 ^ (n - 1)) : 0 ≤ (pck v n).1 ∧ (pck v n).1 < 2 ^ n ∧ (sgn (pck v n).1 n).1 = v := pck_b h1 h2 c d

set_option maxHeartbeats 400000 in
theorem enc1 {o d n m a x k h t c : Int} (hs : shapeI o = 1) (hI : isI ⟨o, d, n, m, a, x, k, h, t, c⟩ = true) :
    okF (fldS 1 ⟨o, d, n, m, a, x, k, h, t, c⟩) ∧ ∀ w : Nat, (∀ f ∈ fldS 1 ⟨o, d, n, m, a, x, k, h, t, c⟩, w / 2 ^ f.1.toNat % 2 ^ f.2.1.toNat = f.2.2.toNat) → decW o 1 w = ⟨o, d, n, m, a, x, k, h, t, c⟩ := by
  have hf := facts1 hs hI
  obtain ⟨y, rfl⟩ : ∃ y, t = 16 * y := Int.dvd_of_tmod_eq_zero (by simp only [hf])
  simp only [fldS, div_mul _ 16 (by decide)]
  simp only [okF, List.mem_cons, List.mem_nil_iff, or_false, forall_eq_or_imp, forall_eq, Int.reduceToNat, Int.reducePow, false_imp_iff, implies_true, imp_self]
  refine ⟨by first | trivial | omega, fun w hw => ?_⟩
  obtain ⟨q0, q1, q2⟩ := hw
  have q0 := fw_of (a := 0) (n := 5) q0 (by omega)
  have q1 := fw_of (a := 5) (n := 16) q1 (by omega)
  have q2 := fw_of (a := 21) (n := 2) q2 (by omega)
  simp only [decW, q0, q1, q2]
  grind

set_option maxHeartbeats 400000 in
theorem enc2 {o d n m a x k h t c : Int} (hs : shapeI o = 2) (hI : isI ⟨o, d, n, m, a, x, k, h, t, c⟩ = true) :
    okF (fldS 2 ⟨o, d, n, m, a, x, k, h, t, c⟩) ∧ ∀ w : Nat, (∀ f ∈ fldS 2 ⟨o, d, n, m, a, x, k, h, t, c⟩, w / 2 ^ f.1.toNat % 2 ^ f.2.1.toNat = f.2.2.toNat) → decW o 2 w = ⟨o, d, n, m, a, x, k, h, t, c⟩ := by
  have hf := facts2 hs hI
  obtain ⟨y, rfl⟩ : ∃ y, t = 12 * y := Int.dvd_of_tmod_eq_zero (by simp only [hf])
  simp only [fldS, div_mul _ 12 (by decide)]
  simp only [okF, List.mem_cons, List.mem_nil_iff, or_false, forall_eq_or_imp, forall_eq, Int.reduceToNat, Int.reducePow, false_imp_iff, implies_true, imp_self]
  refine ⟨by first | trivial | omega, fun w hw => ?_⟩
  obtain ⟨q0, q1, q2, q3⟩ := hw
  have q0 := fw_of (a := 0) (n := 5) q0 (by omega)
  have q1 := fw_of (a := 5) (n := 5) q1 (by omega)
  have q2 := fw_of (a := 10) (n := 12) q2 (by omega)
  have q3 := fw_of (a := 22) (n := 1) q3 (by omega)
  simp only [decW, q0, q1, q2, q3]
  grind

set_option maxHeartbeats 400000 in
theorem enc3 {o d n m a x k h t c : Int} (hs : shapeI o = 3) (hI : isI ⟨o, d, n, m, a, x, k, h, t, c⟩ = true) (hk : 0 ≤ k ∧ k < 18446744073709551616) :
    okF (fldS 3 ⟨o, d, n, m, a, x, k, h, t, c⟩) ∧ ∀ w : Nat, (∀ f ∈ fldS 3 ⟨o, d, n, m, a, x, k, h, t, c⟩, w / 2 ^ f.1.toNat % 2 ^ f.2.1.toNat = f.2.2.toNat) → decW o 3 w = ⟨o, d, n, m, a, x, k, h, t, c⟩ := by
  have hf := facts3 hs hI
  obtain ⟨k, rfl⟩ := Int.eq_ofNat_of_zero_le hk.1
  obtain ⟨e1, e2, e3, he, r1, r2, r3, r4, r5, r6, hd⟩ := enc_pat (k := k) hf.2 (by omega)
  simp only [fldS, Int.toNat_natCast, he]
  simp only [okF, List.mem_cons, List.mem_nil_iff, or_false, forall_eq_or_imp, forall_eq, Int.reduceToNat, Int.reducePow, false_imp_iff, implies_true, imp_self]
  refine ⟨by first | trivial | omega, fun w hw => ?_⟩
  obtain ⟨q0, q1, q2, q3, q4⟩ := hw
  have q0 := fw_of (a := 0) (n := 5) q0 (by omega)
  have q1 := fw_of (a := 5) (n := 5) q1 (by omega)
  have q2 := fw_of (a := 10) (n := 6) q2 (by omega)
  have q3 := fw_of (a := 16) (n := 6) q3 (by omega)
  have q4 := fw_of (a := 22) (n := 1) q4 (by omega)
  simp only [decW, q0, q1, q2, q3, q4]
  rw [hd]
  grind

set_option maxHeartbeats 400000 in
theorem enc4 {o d n m a x k h t c : Int} (hs : shapeI o = 4) (hI : isI ⟨o, d, n, m, a, x, k, h, t, c⟩ = true) :
    okF (fldS 4 ⟨o, d, n, m, a, x, k, h, t, c⟩) ∧ ∀ w : Nat, (∀ f ∈ fldS 4 ⟨o, d, n, m, a, x, k, h, t, c⟩, w / 2 ^ f.1.toNat % 2 ^ f.2.1.toNat = f.2.2.toNat) → decW o 4 w = ⟨o, d, n, m, a, x, k, h, t, c⟩ := by
  have hf := facts4 hs hI
  simp only [fldS]
  simp only [okF, List.mem_cons, List.mem_nil_iff, or_false, forall_eq_or_imp, forall_eq, Int.reduceToNat, Int.reducePow, false_imp_iff, implies_true, imp_self]
  refine ⟨by first | trivial | omega, fun w hw => ?_⟩
  obtain ⟨q0, q1, q2, q3, q4⟩ := hw
  have q0 := fw_of (a := 0) (n := 5) q0 (by omega)
  have q1 := fw_of (a := 5) (n := 5) q1 (by omega)
  have q2 := fw_of (a := 10) (n := 6) q2 (by omega)
  have q3 := fw_of (a := 16) (n := 5) q3 (by omega)
  have q4 := fw_of (a := 22) (n := 2) q4 (by omega)
  simp only [decW, q0, q1, q2, q3, q4]
  grind

set_option maxHeartbeats 400000 in
theorem enc5 {o d n m a x k h t c : Int} (hs : shapeI o = 5) (hI : isI ⟨o, d, n, m, a, x, k, h, t, c⟩ = true) :
    okF (fldS 5 ⟨o, d, n, m, a, x, k, h, t, c⟩) ∧ ∀ w : Nat, (∀ f ∈ fldS 5 ⟨o, d, n, m, a, x, k, h, t, c⟩, w / 2 ^ f.1.toNat % 2 ^ f.2.1.toNat = f.2.2.toNat) → decW o 5 w = ⟨o, d, n, m, a, x, k, h, t, c⟩ := by
  have hf := facts5 hs hI
  simp only [fldS]
  simp only [okF, List.mem_cons, List.mem_nil_iff, or_false, forall_eq_or_imp, forall_eq, Int.reduceToNat, Int.reducePow, false_imp_iff, implies_true, imp_self]
  refine ⟨by first | trivial | omega, fun w hw => ?_⟩
  obtain ⟨q0, q1, q2, q3, q4⟩ := hw
  have q0 := fw_of (a := 0) (n := 5) q0 (by omega)
  have q1 := fw_of (a := 5) (n := 5) q1 (by omega)
  have q2 := fw_of (a := 10) (n := 6) q2 (by omega)
  have q3 := fw_of (a := 16) (n := 5) q3 (by omega)
  have q4 := fw_of (a := 22) (n := 2) q4 (by omega)
  simp only [decW, q0, q1, q2, q3, q4]
  grind

set_option maxHeartbeats 400000 in
theorem enc6 {o d n m a x k h t c : Int} (hs : shapeI o = 6) (hI : isI ⟨o, d, n, m, a, x, k, h, t, c⟩ = true) :
    okF (fldS 6 ⟨o, d, n, m, a, x, k, h, t, c⟩) ∧ ∀ w : Nat, (∀ f ∈ fldS 6 ⟨o, d, n, m, a, x, k, h, t, c⟩, w / 2 ^ f.1.toNat % 2 ^ f.2.1.toNat = f.2.2.toNat) → decW o 6 w = ⟨o, d, n, m, a, x, k, h, t, c⟩ := by
  have hf := facts6 hs hI
  simp only [fldS]
  simp only [okF, List.mem_cons, List.mem_nil_iff, or_false, forall_eq_or_imp, forall_eq, Int.reduceToNat, Int.reducePow, false_imp_iff, implies_true, imp_self]
  refine ⟨by first | trivial | omega, fun w hw => ?_⟩
  obtain ⟨q0, q1, q2, q3⟩ := hw
  have q0 := fw_of (a := 0) (n := 5) q0 (by omega)
  have q1 := fw_of (a := 5) (n := 5) q1 (by omega)
  have q2 := fw_of (a := 10) (n := 5) q2 (by omega)
  have q3 := fw_of (a := 16) (n := 5) q3 (by omega)
  simp only [decW, q0, q1, q2, q3]
  grind

set_option maxHeartbeats 400000 in
theorem enc7 {o d n m a x k h t c : Int} (hs : shapeI o = 7) (hI : isI ⟨o, d, n, m, a, x, k, h, t, c⟩ = true) :
    okF (fldS 7 ⟨o, d, n, m, a, x, k, h, t, c⟩) ∧ ∀ w : Nat, (∀ f ∈ fldS 7 ⟨o, d, n, m, a, x, k, h, t, c⟩, w / 2 ^ f.1.toNat % 2 ^ f.2.1.toNat = f.2.2.toNat) → decW o 7 w = ⟨o, d, n, m, a, x, k, h, t, c⟩ := by
  have hf := facts7 hs hI
  obtain ⟨y, rfl⟩ : ∃ y, x = 8 * y := Int.dvd_of_tmod_eq_zero (by simp only [hf])
  simp only [fldS, div_mul _ 8 (by decide)]
  simp only [okF, List.mem_cons, List.mem_nil_iff, or_false, forall_eq_or_imp, forall_eq, Int.reduceToNat, Int.reducePow, false_imp_iff, implies_true, imp_self]
  refine ⟨by first | trivial | omega, fun w hw => ?_⟩
  obtain ⟨q0, q1, q2⟩ := hw
  have q0 := fw_of (a := 0) (n := 5) q0 (by omega)
  have q1 := fw_of (a := 5) (n := 5) q1 (by omega)
  have q2 := fw_of (a := 10) (n := 12) q2 (by omega)
  simp only [decW, q0, q1, q2]
  grind

set_option maxHeartbeats 400000 in
theorem enc8 {o d n m a x k h t c : Int} (hs : shapeI o = 8) (hI : isI ⟨o, d, n, m, a, x, k, h, t, c⟩ = true) :
    okF (fldS 8 ⟨o, d, n, m, a, x, k, h, t, c⟩) ∧ ∀ w : Nat, (∀ f ∈ fldS 8 ⟨o, d, n, m, a, x, k, h, t, c⟩, w / 2 ^ f.1.toNat % 2 ^ f.2.1.toNat = f.2.2.toNat) → decW o 8 w = ⟨o, d, n, m, a, x, k, h, t, c⟩ := by
  have hf := facts8 hs hI
  simp only [fldS]
  simp only [okF, List.mem_cons, List.mem_nil_iff, or_false, forall_eq_or_imp, forall_eq, Int.reduceToNat, Int.reducePow, false_imp_iff, implies_true, imp_self]
  refine ⟨by first | trivial | omega, fun w hw => ?_⟩
  obtain ⟨q0, q1, q2⟩ := hw
  have q0 := fw_of (a := 0) (n := 5) q0 (by omega)
  have q1 := fw_of (a := 5) (n := 5) q1 (by omega)
  have q2 := fw_of (a := 10) (n := 12) q2 (by omega)
  simp only [decW, q0, q1, q2]
  grind

set_option maxHeartbeats 400000 in
theorem enc9 {o d n m a x k h t c : Int} (hs : shapeI o = 9) (hI : isI ⟨o, d, n, m, a, x, k, h, t, c⟩ = true) :
    okF (fldS 9 ⟨o, d, n, m, a, x, k, h, t, c⟩) ∧ ∀ w : Nat, (∀ f ∈ fldS 9 ⟨o, d, n, m, a, x, k, h, t, c⟩, w / 2 ^ f.1.toNat % 2 ^ f.2.1.toNat = f.2.2.toNat) → decW o 9 w = ⟨o, d, n, m, a, x, k, h, t, c⟩ := by
  have hf := facts9 hs hI
  obtain ⟨y, rfl⟩ : ∃ y, x = 4 * y := Int.dvd_of_tmod_eq_zero (by simp only [hf])
  simp only [fldS, div_mul _ 4 (by decide)]
  obtain ⟨p1, p2, p3⟩ := pck_lit (v := y) (n := 19) (by decide) (by decide) (by simp only [Nat.reduceSub, Int.reducePow]; omega) (by simp only [Nat.reduceSub, Int.reducePow]; omega)
  simp only [Int.reducePow, Int.cast_ofNat_Int] at p1 p2 p3
  generalize (pck y 19).1 = p at *
  simp only [okF, List.mem_cons, List.mem_nil_iff, or_false, forall_eq_or_imp, forall_eq, Int.reduceToNat, Int.reducePow, false_imp_iff, implies_true, imp_self]
  refine ⟨by first | trivial | omega, fun w hw => ?_⟩
  obtain ⟨q0, q1⟩ := hw
  have q0 := fw_of (a := 0) (n := 5) q0 (by omega)
  have q1 := fw_of (a := 5) (n := 19) q1 (by omega)
  simp only [decW, q0, q1]
  try rw [p3]
  try rw [p4]
  grind

set_option maxHeartbeats 400000 in
theorem enc10 {o d n m a x k h t c : Int} (hs : shapeI o = 10) (hI : isI ⟨o, d, n, m, a, x, k, h, t, c⟩ = true) :
    okF (fldS 10 ⟨o, d, n, m, a, x, k, h, t, c⟩) ∧ ∀ w : Nat, (∀ f ∈ fldS 10 ⟨o, d, n, m, a, x, k, h, t, c⟩, w / 2 ^ f.1.toNat % 2 ^ f.2.1.toNat = f.2.2.toNat) → decW o 10 w = ⟨o, d, n, m, a, x, k, h, t, c⟩ := by
  have hf := facts10 hs hI
  simp only [fldS]
  obtain ⟨p1, p2, p3⟩ := pck_lit (v := x) (n := 21) (by decide) (by decide) (by simp only [Nat.reduceSub, Int.reducePow]; omega) (by simp only [Nat.reduceSub, Int.reducePow]; omega)
  simp only [Int.reducePow, Int.cast_ofNat_Int] at p1 p2 p3
  generalize (pck x 21).1 = p at *
  have p4 := sgn21 (a := p / 4) (b := p % 4) (by omega) (by omega) (by omega) (by omega)
  rw [show 4 * (p / 4) + p % 4 = p from by omega, p3] at p4
  simp only [okF, List.mem_cons, List.mem_nil_iff, or_false, forall_eq_or_imp, forall_eq, Int.reduceToNat, Int.reducePow, false_imp_iff, implies_true, imp_self]
  refine ⟨by first | trivial | omega, fun w hw => ?_⟩
  obtain ⟨q0, q1, q2⟩ := hw
  have q0 := fw_of (a := 0) (n := 5) q0 (by omega)
  have q1 := fw_of (a := 5) (n := 19) q1 (by omega)
  have q2 := fw_of (a := 29) (n := 2) q2 (by omega)
  simp only [decW, q0, q1, q2]
  try rw [p3]
  try rw [p4]
  grind

set_option maxHeartbeats 400000 in
theorem enc11 {o d n m a x k h t c : Int} (hs : shapeI o = 11) (hI : isI ⟨o, d, n, m, a, x, k, h, t, c⟩ = true) :
    okF (fldS 11 ⟨o, d, n, m, a, x, k, h, t, c⟩) ∧ ∀ w : Nat, (∀ f ∈ fldS 11 ⟨o, d, n, m, a, x, k, h, t, c⟩, w / 2 ^ f.1.toNat % 2 ^ f.2.1.toNat = f.2.2.toNat) → decW o 11 w = ⟨o, d, n, m, a, x, k, h, t, c⟩ := by
  have hf := facts11 hs hI
  obtain ⟨y, rfl⟩ : ∃ y, x = 4 * y := Int.dvd_of_tmod_eq_zero (by simp only [hf])
  simp only [fldS, div_mul _ 4 (by decide)]
  obtain ⟨p1, p2, p3⟩ := pck_lit (v := y) (n := 26) (by decide) (by decide) (by simp only [Nat.reduceSub, Int.reducePow]; omega) (by simp only [Nat.reduceSub, Int.reducePow]; omega)
  simp only [Int.reducePow, Int.cast_ofNat_Int] at p1 p2 p3
  generalize (pck y 26).1 = p at *
  simp only [okF, List.mem_cons, List.mem_nil_iff, or_false, forall_eq_or_imp, forall_eq, Int.reduceToNat, Int.reducePow, false_imp_iff, implies_true, imp_self]
  refine ⟨by first | trivial | omega, fun w hw => ?_⟩
  have q0 := hw
  have q0 := fw_of (a := 0) (n := 26) q0 (by omega)
  simp only [decW, q0]
  try rw [p3]
  try rw [p4]
  grind

set_option maxHeartbeats 400000 in
theorem enc12 {o d n m a x k h t c : Int} (hs : shapeI o = 12) (hI : isI ⟨o, d, n, m, a, x, k, h, t, c⟩ = true) :
    okF (fldS 12 ⟨o, d, n, m, a, x, k, h, t, c⟩) ∧ ∀ w : Nat, (∀ f ∈ fldS 12 ⟨o, d, n, m, a, x, k, h, t, c⟩, w / 2 ^ f.1.toNat % 2 ^ f.2.1.toNat = f.2.2.toNat) → decW o 12 w = ⟨o, d, n, m, a, x, k, h, t, c⟩ := by
  have hf := facts12 hs hI
  obtain ⟨y, rfl⟩ : ∃ y, x = 4 * y := Int.dvd_of_tmod_eq_zero (by simp only [hf])
  simp only [fldS, div_mul _ 4 (by decide)]
  obtain ⟨p1, p2, p3⟩ := pck_lit (v := y) (n := 19) (by decide) (by decide) (by simp only [Nat.reduceSub, Int.reducePow]; omega) (by simp only [Nat.reduceSub, Int.reducePow]; omega)
  simp only [Int.reducePow, Int.cast_ofNat_Int] at p1 p2 p3
  generalize (pck y 19).1 = p at *
  simp only [okF, List.mem_cons, List.mem_nil_iff, or_false, forall_eq_or_imp, forall_eq, Int.reduceToNat, Int.reducePow, false_imp_iff, implies_true, imp_self]
  refine ⟨by first | trivial | omega, fun w hw => ?_⟩
  obtain ⟨q0, q1⟩ := hw
  have q0 := fw_of (a := 0) (n := 4) q0 (by omega)
  have q1 := fw_of (a := 5) (n := 19) q1 (by omega)
  simp only [decW, q0, q1]
  try rw [p3]
  try rw [p4]
  grind

set_option maxHeartbeats 400000 in
theorem enc13 {o d n m a x k h t c : Int} (hs : shapeI o = 13) (hI : isI ⟨o, d, n, m, a, x, k, h, t, c⟩ = true) :
    okF (fldS 13 ⟨o, d, n, m, a, x, k, h, t, c⟩) ∧ ∀ w : Nat, (∀ f ∈ fldS 13 ⟨o, d, n, m, a, x, k, h, t, c⟩, w / 2 ^ f.1.toNat % 2 ^ f.2.1.toNat = f.2.2.toNat) → decW o 13 w = ⟨o, d, n, m, a, x, k, h, t, c⟩ := by
  have hf := facts13 hs hI
  simp only [fldS]
  simp only [okF, List.mem_cons, List.mem_nil_iff, or_false, forall_eq_or_imp, forall_eq, Int.reduceToNat, Int.reducePow, false_imp_iff, implies_true, imp_self]
  refine ⟨by first | trivial | omega, fun w hw => ?_⟩
  have q0 := hw
  have q0 := fw_of (a := 5) (n := 5) q0 (by omega)
  simp only [decW, q0]
  grind

set_option maxHeartbeats 400000 in
theorem enc14 {o d n m a x k h t c : Int} (hs : shapeI o = 14) (hI : isI ⟨o, d, n, m, a, x, k, h, t, c⟩ = true) :
    okF (fldS 14 ⟨o, d, n, m, a, x, k, h, t, c⟩) ∧ ∀ w : Nat, (∀ f ∈ fldS 14 ⟨o, d, n, m, a, x, k, h, t, c⟩, w / 2 ^ f.1.toNat % 2 ^ f.2.1.toNat = f.2.2.toNat) → decW o 14 w = ⟨o, d, n, m, a, x, k, h, t, c⟩ := by
  have hf := facts14 hs hI
  simp only [fldS]
  simp only [okF, List.mem_cons, List.mem_nil_iff, or_false, forall_eq_or_imp, forall_eq, Int.reduceToNat, Int.reducePow, false_imp_iff, implies_true, imp_self]
  refine ⟨by first | trivial | omega, fun w hw => ?_⟩
  have q0 := hw
  have q0 := fw_of (a := 5) (n := 16) q0 (by omega)
  simp only [decW, q0]
  grind

set_option maxHeartbeats 400000 in
theorem enc15 {o d n m a x k h t c : Int} (hs : shapeI o = 15) (hI : isI ⟨o, d, n, m, a, x, k, h, t, c⟩ = true) :
    okF (fldS 15 ⟨o, d, n, m, a, x, k, h, t, c⟩) ∧ ∀ w : Nat, (∀ f ∈ fldS 15 ⟨o, d, n, m, a, x, k, h, t, c⟩, w / 2 ^ f.1.toNat % 2 ^ f.2.1.toNat = f.2.2.toNat) → decW o 15 w = ⟨o, d, n, m, a, x, k, h, t, c⟩ := by
  have hf := facts15 hs hI
  simp only [fldS]
  simp only [okF, List.mem_cons, List.mem_nil_iff, or_false, forall_eq_or_imp, forall_eq, Int.reduceToNat, Int.reducePow, false_imp_iff, implies_true, imp_self]
  refine ⟨by first | trivial | omega, fun w hw => ?_⟩
  simp only [decW]
  grind

set_option maxHeartbeats 400000 in
theorem enc16 {o d n m a x k h t c : Int} (hs : shapeI o = 16) (hI : isI ⟨o, d, n, m, a, x, k, h, t, c⟩ = true) :
    okF (fldS 16 ⟨o, d, n, m, a, x, k, h, t, c⟩) ∧ ∀ w : Nat, (∀ f ∈ fldS 16 ⟨o, d, n, m, a, x, k, h, t, c⟩, w / 2 ^ f.1.toNat % 2 ^ f.2.1.toNat = f.2.2.toNat) → decW o 16 w = ⟨o, d, n, m, a, x, k, h, t, c⟩ := by
  have hf := facts16 hs hI
  simp only [fldS]
  simp only [okF, List.mem_cons, List.mem_nil_iff, or_false, forall_eq_or_imp, forall_eq, Int.reduceToNat, Int.reducePow, false_imp_iff, implies_true, imp_self]
  refine ⟨by first | trivial | omega, fun w hw => ?_⟩
  obtain ⟨q0, q1, q2, q3⟩ := hw
  have q0 := fw_of (a := 0) (n := 5) q0 (by omega)
  have q1 := fw_of (a := 5) (n := 5) q1 (by omega)
  have q2 := fw_of (a := 12) (n := 4) q2 (by omega)
  have q3 := fw_of (a := 16) (n := 5) q3 (by omega)
  simp only [decW, q0, q1, q2, q3]
  grind

set_option maxHeartbeats 400000 in
theorem back1 {o : Int} {w : Nat} (hs : shapeI o = 1) (hI : isI (decW o 1 w) = true) : ∀ f ∈ fldS 1 (decW o 1 w), f.2.2.toNat = w / 2 ^ f.1.toNat % 2 ^ f.2.1.toNat := by
  simp only [fldS, decW, div_mul _ 16 (by decide)]
  simp only [List.mem_cons, List.mem_nil_iff, or_false, forall_eq_or_imp, forall_eq, Int.reduceToNat, false_imp_iff, implies_true]
  exact ⟨(of_fw w 0 5).symm, (of_fw w 5 16).symm, (of_fw w 21 2).symm⟩

set_option maxHeartbeats 400000 in
theorem back2 {o : Int} {w : Nat} (hs : shapeI o = 2) (hI : isI (decW o 2 w) = true) : ∀ f ∈ fldS 2 (decW o 2 w), f.2.2.toNat = w / 2 ^ f.1.toNat % 2 ^ f.2.1.toNat := by
  simp only [fldS, decW, div_mul _ 12 (by decide)]
  simp only [List.mem_cons, List.mem_nil_iff, or_false, forall_eq_or_imp, forall_eq, Int.reduceToNat, false_imp_iff, implies_true]
  exact ⟨(of_fw w 0 5).symm, (of_fw w 5 5).symm, (of_fw w 10 12).symm, (of_fw w 22 1).symm⟩

set_option maxHeartbeats 400000 in
theorem back3 {o : Int} {w : Nat} (hs : shapeI o = 3) (hI : isI (decW o 3 w) = true) : ∀ f ∈ fldS 3 (decW o 3 w), f.2.2.toNat = w / 2 ^ f.1.toNat % 2 ^ f.2.1.toNat := by
  have hS : isS (decW o 3 w).mask.toNat = true := by
    have := (isI_of (s := 3) hI hs).2.2
    simpa [numI] using this
  simp only [decW] at hS
  have he := (dec_enc hS).1
  simp only [fldS, decW, he]
  simp only [List.mem_cons, List.mem_nil_iff, or_false, forall_eq_or_imp, forall_eq, Int.reduceToNat, false_imp_iff, implies_true]
  exact ⟨(of_fw w 0 5).symm, (of_fw w 5 5).symm, (of_fw w 10 6).symm, (of_fw w 16 6).symm, (of_fw w 22 1).symm⟩

set_option maxHeartbeats 400000 in
theorem back4 {o : Int} {w : Nat} (hs : shapeI o = 4) (hI : isI (decW o 4 w) = true) : ∀ f ∈ fldS 4 (decW o 4 w), f.2.2.toNat = w / 2 ^ f.1.toNat % 2 ^ f.2.1.toNat := by
  simp only [fldS, decW]
  simp only [List.mem_cons, List.mem_nil_iff, or_false, forall_eq_or_imp, forall_eq, Int.reduceToNat, false_imp_iff, implies_true]
  exact ⟨(of_fw w 0 5).symm, (of_fw w 5 5).symm, (of_fw w 10 6).symm, (of_fw w 16 5).symm, (of_fw w 22 2).symm⟩

set_option maxHeartbeats 400000 in
theorem back5 {o : Int} {w : Nat} (hs : shapeI o = 5) (hI : isI (decW o 5 w) = true) : ∀ f ∈ fldS 5 (decW o 5 w), f.2.2.toNat = w / 2 ^ f.1.toNat % 2 ^ f.2.1.toNat := by
  simp only [fldS, decW]
  simp only [List.mem_cons, List.mem_nil_iff, or_false, forall_eq_or_imp, forall_eq, Int.reduceToNat, false_imp_iff, implies_true]
  exact ⟨(of_fw w 0 5).symm, (of_fw w 5 5).symm, (of_fw w 10 6).symm, (of_fw w 16 5).symm, (of_fw w 22 2).symm⟩

set_option maxHeartbeats 400000 in
theorem back6 {o : Int} {w : Nat} (hs : shapeI o = 6) (hI : isI (decW o 6 w) = true) : ∀ f ∈ fldS 6 (decW o 6 w), f.2.2.toNat = w / 2 ^ f.1.toNat % 2 ^ f.2.1.toNat := by
  simp only [fldS, decW]
  simp only [List.mem_cons, List.mem_nil_iff, or_false, forall_eq_or_imp, forall_eq, Int.reduceToNat, false_imp_iff, implies_true]
  exact ⟨(of_fw w 0 5).symm, (of_fw w 5 5).symm, (of_fw w 10 5).symm, (of_fw w 16 5).symm⟩

set_option maxHeartbeats 400000 in
theorem back7 {o : Int} {w : Nat} (hs : shapeI o = 7) (hI : isI (decW o 7 w) = true) : ∀ f ∈ fldS 7 (decW o 7 w), f.2.2.toNat = w / 2 ^ f.1.toNat % 2 ^ f.2.1.toNat := by
  simp only [fldS, decW, div_mul _ 8 (by decide)]
  simp only [List.mem_cons, List.mem_nil_iff, or_false, forall_eq_or_imp, forall_eq, Int.reduceToNat, false_imp_iff, implies_true]
  exact ⟨(of_fw w 0 5).symm, (of_fw w 5 5).symm, (of_fw w 10 12).symm⟩

set_option maxHeartbeats 400000 in
theorem back8 {o : Int} {w : Nat} (hs : shapeI o = 8) (hI : isI (decW o 8 w) = true) : ∀ f ∈ fldS 8 (decW o 8 w), f.2.2.toNat = w / 2 ^ f.1.toNat % 2 ^ f.2.1.toNat := by
  simp only [fldS, decW]
  simp only [List.mem_cons, List.mem_nil_iff, or_false, forall_eq_or_imp, forall_eq, Int.reduceToNat, false_imp_iff, implies_true]
  exact ⟨(of_fw w 0 5).symm, (of_fw w 5 5).symm, (of_fw w 10 12).symm⟩

set_option maxHeartbeats 400000 in
theorem back9 {o : Int} {w : Nat} (hs : shapeI o = 9) (hI : isI (decW o 9 w) = true) : ∀ f ∈ fldS 9 (decW o 9 w), f.2.2.toNat = w / 2 ^ f.1.toNat % 2 ^ f.2.1.toNat := by
  have b := fw_lt w 5 19
  simp only [Int.reducePow] at b
  have p := (sgn_b (v := fw w 5 19) (n := 19) (by decide) (by decide) b.1 (by simp only [Int.reducePow]; exact b.2)).1
  simp only [Int.cast_ofNat_Int] at p
  simp only [fldS, decW, div_mul _ 4 (by decide), p]
  simp only [List.mem_cons, List.mem_nil_iff, or_false, forall_eq_or_imp, forall_eq, Int.reduceToNat, false_imp_iff, implies_true]
  exact ⟨(of_fw w 0 5).symm, (of_fw w 5 19).symm⟩

set_option maxHeartbeats 400000 in
theorem back10 {o : Int} {w : Nat} (hs : shapeI o = 10) (hI : isI (decW o 10 w) = true) : ∀ f ∈ fldS 10 (decW o 10 w), f.2.2.toNat = w / 2 ^ f.1.toNat % 2 ^ f.2.1.toNat := by
  have b := fw_lt w 5 19
  simp only [Int.reducePow] at b
  have b2 := fw_lt w 29 2
  simp only [Int.reducePow] at b2
  have e := sgn21 b.1 b.2 b2.1 b2.2
  have p := (sgn_b (v := 4 * fw w 5 19 + fw w 29 2) (n := 21) (by decide) (by decide) (by omega) (by simp only [Int.reducePow]; omega)).1
  simp only [Int.cast_ofNat_Int] at p
  have d1 : (4 * fw w 5 19 + fw w 29 2) / 4 = fw w 5 19 := by omega
  have d2 : (4 * fw w 5 19 + fw w 29 2) % 4 = fw w 29 2 := by omega
  simp only [fldS, decW, e, p, d1, d2]
  simp only [List.mem_cons, List.mem_nil_iff, or_false, forall_eq_or_imp, forall_eq, Int.reduceToNat, false_imp_iff, implies_true]
  exact ⟨(of_fw w 0 5).symm, (of_fw w 5 19).symm, (of_fw w 29 2).symm⟩

set_option maxHeartbeats 400000 in
theorem back11 {o : Int} {w : Nat} (hs : shapeI o = 11) (hI : isI (decW o 11 w) = true) : ∀ f ∈ fldS 11 (decW o 11 w), f.2.2.toNat = w / 2 ^ f.1.toNat % 2 ^ f.2.1.toNat := by
  have b := fw_lt w 0 26
  simp only [Int.reducePow] at b
  have p := (sgn_b (v := fw w 0 26) (n := 26) (by decide) (by decide) b.1 (by simp only [Int.reducePow]; exact b.2)).1
  simp only [Int.cast_ofNat_Int] at p
  simp only [fldS, decW, div_mul _ 4 (by decide), p]
  simp only [List.mem_cons, List.mem_nil_iff, or_false, forall_eq_or_imp, forall_eq, Int.reduceToNat, false_imp_iff, implies_true]
  exact (of_fw w 0 26).symm

set_option maxHeartbeats 400000 in
theorem back12 {o : Int} {w : Nat} (hs : shapeI o = 12) (hI : isI (decW o 12 w) = true) : ∀ f ∈ fldS 12 (decW o 12 w), f.2.2.toNat = w / 2 ^ f.1.toNat % 2 ^ f.2.1.toNat := by
  have b := fw_lt w 5 19
  simp only [Int.reducePow] at b
  have p := (sgn_b (v := fw w 5 19) (n := 19) (by decide) (by decide) b.1 (by simp only [Int.reducePow]; exact b.2)).1
  simp only [Int.cast_ofNat_Int] at p
  simp only [fldS, decW, div_mul _ 4 (by decide), p]
  simp only [List.mem_cons, List.mem_nil_iff, or_false, forall_eq_or_imp, forall_eq, Int.reduceToNat, false_imp_iff, implies_true]
  exact ⟨(of_fw w 0 4).symm, (of_fw w 5 19).symm⟩

set_option maxHeartbeats 400000 in
theorem back13 {o : Int} {w : Nat} (hs : shapeI o = 13) (hI : isI (decW o 13 w) = true) : ∀ f ∈ fldS 13 (decW o 13 w), f.2.2.toNat = w / 2 ^ f.1.toNat % 2 ^ f.2.1.toNat := by
  simp only [fldS, decW]
  simp only [List.mem_cons, List.mem_nil_iff, or_false, forall_eq_or_imp, forall_eq, Int.reduceToNat, false_imp_iff, implies_true]
  exact (of_fw w 5 5).symm

set_option maxHeartbeats 400000 in
theorem back14 {o : Int} {w : Nat} (hs : shapeI o = 14) (hI : isI (decW o 14 w) = true) : ∀ f ∈ fldS 14 (decW o 14 w), f.2.2.toNat = w / 2 ^ f.1.toNat % 2 ^ f.2.1.toNat := by
  simp only [fldS, decW]
  simp only [List.mem_cons, List.mem_nil_iff, or_false, forall_eq_or_imp, forall_eq, Int.reduceToNat, false_imp_iff, implies_true]
  exact (of_fw w 5 16).symm

set_option maxHeartbeats 400000 in
theorem back15 {o : Int} {w : Nat} (hs : shapeI o = 15) (hI : isI (decW o 15 w) = true) : ∀ f ∈ fldS 15 (decW o 15 w), f.2.2.toNat = w / 2 ^ f.1.toNat % 2 ^ f.2.1.toNat := by
  simp only [fldS, decW]
  simp only [List.mem_cons, List.mem_nil_iff, or_false, forall_eq_or_imp, forall_eq, Int.reduceToNat, false_imp_iff, implies_true]

set_option maxHeartbeats 400000 in
theorem back16 {o : Int} {w : Nat} (hs : shapeI o = 16) (hI : isI (decW o 16 w) = true) : ∀ f ∈ fldS 16 (decW o 16 w), f.2.2.toNat = w / 2 ^ f.1.toNat % 2 ^ f.2.1.toNat := by
  simp only [fldS, decW]
  simp only [List.mem_cons, List.mem_nil_iff, or_false, forall_eq_or_imp, forall_eq, Int.reduceToNat, false_imp_iff, implies_true]
  exact ⟨(of_fw w 0 5).symm, (of_fw w 5 5).symm, (of_fw w 12 4).symm, (of_fw w 16 5).symm⟩

def zf (f : F3) : F3 := (f.1, f.2.1, 0)
theorem apartL_zf : ∀ (l : List F3) (t : Nat), apartL (l.map zf) t = apartL l t := by
  intro l
  induction l with
  | nil => intro t; rfl
  | cons f r ih =>
    intro t
    rw [List.map_cons, apartL, apartL, ih]
    rfl
theorem orAll_zf : ∀ (l : List F3), orAll (l.map zf) = orAll l := by
  intro l
  induction l with
  | nil => rfl
  | cons f r ih => rw [List.map_cons, orAll, orAll, ih]; rfl
theorem fldS_zf (s : Nat) (i : In) (hs : s ≤ 16) : (fldS s i).map zf = (fldS s ⟨0, 0, 0, 0, 0, 0, 0, 0, 0, 0⟩).map zf := by
  have hc : s = 0 ∨ s = 1 ∨ s = 2 ∨ s = 3 ∨ s = 4 ∨ s = 5 ∨ s = 6 ∨ s = 7 ∨ s = 8 ∨ s = 9 ∨ s = 10 ∨ s = 11 ∨ s = 12 ∨ s = 13 ∨ s = 14 ∨ s = 15 ∨ s = 16 := by omega
  rcases hc with rfl | rfl | rfl | rfl | rfl | rfl | rfl | rfl | rfl | rfl | rfl | rfl | rfl | rfl | rfl | rfl | rfl
  all_goals simp only [fldS, List.map, zf]
set_option maxRecDepth 10000 in
theorem apart_z : ∀ s : Fin 17, apartL ((fldS s.val ⟨0, 0, 0, 0, 0, 0, 0, 0, 0, 0⟩).map zf) (tight s.val) = true ∧ apartL ((fldS s.val ⟨0, 0, 0, 0, 0, 0, 0, 0, 0, 0⟩).map zf) 0 = true ∧ orAll ((fldS s.val ⟨0, 0, 0, 0, 0, 0, 0, 0, 0, 0⟩).map zf) ||| tight s.val = 4294967295 := by decide +kernel
theorem apart_t (s : Nat) (i : In) (hs : s ≤ 16) : apartL (fldS s i) (tight s) = true ∧ apartL (fldS s i) 0 = true ∧ orAll (fldS s i) ||| tight s = 4294967295 := by
  have h := apart_z ⟨s, by omega⟩
  simp only [] at h
  rw [← fldS_zf s i hs, apartL_zf, apartL_zf, orAll_zf] at h
  exact h
theorem code_op {i : In} (h : isI i = true) : 1 ≤ i.op ∧ i.op ≤ 39 := by
  unfold isI at h
  simp only [Bool.and_eq_true] at h
  have := h.1.1.1
  apply Classical.byContradiction
  intro hc
  have e : shapeI i.op = 0 := by unfold shapeI; rw [if_pos (by omega)]
  rw [e] at this; simp at this
theorem isI_shape {i : In} (h : isI i = true) : shapeI i.op ≠ 0 := by
  unfold isI at h
  simp only [Bool.and_eq_true, bne_iff_ne] at h
  exact h.1.1.1
theorem enc_all (i : In) (hI : isI i = true) (hk : 0 ≤ i.mask ∧ i.mask < 18446744073709551616) :
    okF (fldS (shapeI i.op).toNat i) ∧ ∀ w : Nat, (∀ f ∈ fldS (shapeI i.op).toNat i, w / 2 ^ f.1.toNat % 2 ^ f.2.1.toNat = f.2.2.toNat) → decW i.op (shapeI i.op).toNat w = i := by
  have hb := shapeI_b i.op
  have h0 := isI_shape hI
  obtain ⟨s, hs⟩ := Int.eq_ofNat_of_zero_le hb.1
  obtain ⟨o, d, n, m, a, x, k, h, t, c⟩ := i
  simp only [] at hs hk h0 hb ⊢
  rw [hs, Int.toNat_natCast]
  have hc : s = 1 ∨ s = 2 ∨ s = 3 ∨ s = 4 ∨ s = 5 ∨ s = 6 ∨ s = 7 ∨ s = 8 ∨ s = 9 ∨ s = 10 ∨ s = 11 ∨ s = 12 ∨ s = 13 ∨ s = 14 ∨ s = 15 ∨ s = 16 := by omega
  rcases hc with rfl | rfl | rfl | rfl | rfl | rfl | rfl | rfl | rfl | rfl | rfl | rfl | rfl | rfl | rfl | rfl
  · exact enc1 hs hI
  · exact enc2 hs hI
  · exact enc3 hs hI hk
  · exact enc4 hs hI
  · exact enc5 hs hI
  · exact enc6 hs hI
  · exact enc7 hs hI
  · exact enc8 hs hI
  · exact enc9 hs hI
  · exact enc10 hs hI
  · exact enc11 hs hI
  · exact enc12 hs hI
  · exact enc13 hs hI
  · exact enc14 hs hI
  · exact enc15 hs hI
  · exact enc16 hs hI
theorem back_all (o : Int) (w : Nat) (hI : isI (decW o (shapeI o).toNat w) = true) (h0 : shapeI o ≠ 0) :
    ∀ f ∈ fldS (shapeI o).toNat (decW o (shapeI o).toNat w), f.2.2.toNat = w / 2 ^ f.1.toNat % 2 ^ f.2.1.toNat := by
  have hb := shapeI_b o
  obtain ⟨s, hs⟩ := Int.eq_ofNat_of_zero_le hb.1
  rw [hs, Int.toNat_natCast] at hI ⊢
  have hc : s = 1 ∨ s = 2 ∨ s = 3 ∨ s = 4 ∨ s = 5 ∨ s = 6 ∨ s = 7 ∨ s = 8 ∨ s = 9 ∨ s = 10 ∨ s = 11 ∨ s = 12 ∨ s = 13 ∨ s = 14 ∨ s = 15 ∨ s = 16 := by omega
  rcases hc with rfl | rfl | rfl | rfl | rfl | rfl | rfl | rfl | rfl | rfl | rfl | rfl | rfl | rfl | rfl | rfl
  · exact back1 hs hI
  · exact back2 hs hI
  · exact back3 hs hI
  · exact back4 hs hI
  · exact back5 hs hI
  · exact back6 hs hI
  · exact back7 hs hI
  · exact back8 hs hI
  · exact back9 hs hI
  · exact back10 hs hI
  · exact back11 hs hI
  · exact back12 hs hI
  · exact back13 hs hI
  · exact back14 hs hI
  · exact back15 hs hI
  · exact back16 hs hI
theorem decW_op (o : Int) (s w : Nat) : (decW o s w).op = o := by unfold decW; split <;> rfl
theorem encW_spec (i : In) (hI : isI i = true) (hk : 0 ≤ i.mask ∧ i.mask < 18446744073709551616) :
    ∃ c : Nat, wordS (fldS (shapeI i.op).toNat i) = ((c : Int), 0) ∧ baN i.op ||| c = encW i ∧ c < 4294967296 ∧ encW i < 4294967296 ∧ isOp i.op.toNat (encW i) = true ∧ decW i.op (shapeI i.op).toNat (encW i) = i := by
  obtain ⟨hok, hdec⟩ := enc_all i hI hk
  have ho := code_op hI
  have hb := shapeI_b i.op
  obtain ⟨a1, a2, -⟩ := apart_t (shapeI i.op).toNat i (by omega)
  have eo : ((i.op.toNat : Nat) : Int) = i.op := by omega
  have bi := base_in ⟨i.op.toNat, by omega⟩
  simp only [eo] at bi
  obtain ⟨d, hd, hd2, hd3, hd4⟩ := enc_gen _ _ _ hok a1 bi.1 bi.2
  have hW : encW i = d := by unfold encW; rw [hd]; rfl
  obtain ⟨c, hc⟩ := wordL_ok (fldS (shapeI i.op).toNat i) 0 hok
  have hor := wordL_or _ _ (baN i.op) _ hc
  rw [Nat.or_zero, hd] at hor
  simp only [Prod.mk.injEq, and_true] at hor
  have hcl := wordL_lt2 _ _ _ (apartL_right _ _ a2) hok (by decide) hc
  refine ⟨c, ?_, ?_, hcl, by omega, ?_, ?_⟩
  · unfold wordS; rw [if_neg (by rw [a2]; decide), hc]
  · rw [hW]; omega
  · unfold isOp; rw [eo, hW, hd4]; exact beq_self_eq_true _
  · rw [hW]; exact hdec d hd3
theorem back_spec (o w : Nat) (h1 : 1 ≤ o) (h2 : o < 40) (hw : w < 4294967296) (ho : isOp o w = true) (hI : isI (decW o (shapeI o).toNat w) = true) (hk : 0 ≤ (decW o (shapeI o).toNat w).mask ∧ (decW o (shapeI o).toNat w).mask < 18446744073709551616) :
    encW (decW o (shapeI o).toNat w) = w := by
  have h0 : shapeI o ≠ 0 := by have := isI_shape hI; rwa [decW_op] at this
  have hb := shapeI_b o
  have hback := back_all o w hI h0
  have hall := enc_all _ hI hk
  rw [decW_op] at hall
  obtain ⟨a1, a2, a3⟩ := apart_t (shapeI o).toNat (decW o (shapeI o).toNat w) (by omega)
  have bi := base_in ⟨o, h2⟩
  simp only [] at bi
  obtain ⟨d, hd, hd2, hd3, hd4⟩ := enc_gen _ _ _ hall.1 a1 bi.1 bi.2
  have hW : encW (decW o (shapeI o).toNat w) = d := by unfold encW; rw [decW_op, hd]; rfl
  rw [hW]
  refine word_ext _ _ d w (apartL_right _ _ a2) a3 hd2 hw (fun f hf => ?_) ?_
  · rw [hd3 f hf]; exact hback f hf
  · rw [hd4]; unfold isOp at ho; exact (eq_of_beq ho).symm
/-- The operation of a word; 0, if there is none. -/
def opW (w : Nat) : Nat := ((List.range 40).find? fun o => decide (1 ≤ o) && isOp o w).getD 0
theorem opW_is {o w : Nat} (h1 : 1 ≤ o) (h2 : o < 40) (h : isOp o w = true) : opW w = o := by
  unfold opW
  cases hf : (List.range 40).find? fun o => decide (1 ≤ o) && isOp o w with
  | none =>
    have := List.find?_eq_none.1 hf o (List.mem_range.2 h2)
    simp [h1, h] at this
  | some p =>
    have hp := List.find?_some hf
    have hm := List.mem_range.1 (List.mem_of_find?_eq_some hf)
    simp only [Bool.and_eq_true, decide_eq_true_eq] at hp
    exact isOp_uniq hp.1 hm h1 h2 hp.2 h
theorem opW_none {w : Nat} (h : ∀ o, 1 ≤ o → o < 40 → isOp o w = false) : opW w = 0 := by
  unfold opW
  cases hf : (List.range 40).find? fun o => decide (1 ≤ o) && isOp o w with
  | none => rfl
  | some p =>
    have hp := List.find?_some hf
    have hm := List.mem_range.1 (List.mem_of_find?_eq_some hf)
    simp only [Bool.and_eq_true, decide_eq_true_eq] at hp
    rw [h p hp.1 hm] at hp; simp at hp
theorem opW_or (w : Nat) : (opW w = 0 ∧ ∀ o, 1 ≤ o → o < 40 → isOp o w = false) ∨ (1 ≤ opW w ∧ opW w < 40 ∧ isOp (opW w) w = true) := by
  by_cases h : ∃ o, 1 ≤ o ∧ o < 40 ∧ isOp o w = true
  · obtain ⟨o, h1, h2, h3⟩ := h
    rw [opW_is h1 h2 h3]
    exact .inr ⟨h1, h2, h3⟩
  · left
    have hn : ∀ o, 1 ≤ o → o < 40 → isOp o w = false := by
      intro o h1 h2
      cases e : isOp o w
      · rfl
      · exact (h ⟨o, h1, h2, e⟩).elim
    exact ⟨opW_none hn, hn⟩
abbrev inZ : In := ⟨0, 0, 0, 0, 0, 0, 0, 0, 0, 0⟩
/-- What is read of a word. -/
def readW (w : Nat) : In := decW (opW w) (shapeI (opW w)).toNat w
def dI (w : Nat) : In × Int := if isI (readW w) = true then (readW w, 0) else (inZ, 11)
theorem decW_mask (o : Int) (s w : Nat) : 0 ≤ (decW o s w).mask ∧ (decW o s w).mask < 18446744073709551616 := by
  unfold decW
  split <;> first | (simp only []; omega) | skip
  simp only []
  rcases @dec_err (fw w 22 1) (fw w 16 6) (fw w 10 6) with ⟨a, e⟩ | ⟨e, -⟩
  · have := dec_lt e; rw [e]; exact this
  · rw [e]; omega
theorem readW_op (w : Nat) : (readW w).op = opW w := decW_op _ _ _
theorem dI_ok {w : Nat} (h : isI (readW w) = true) (hw : w < 4294967296) : encW (readW w) = w := by
  rcases opW_or w with ⟨e, -⟩ | ⟨h1, h2, h3⟩
  · exfalso
    have := code_op h
    rw [readW_op, e] at this; omega
  · exact back_spec (opW w) w h1 h2 hw h3 h (decW_mask _ _ _)
theorem dI_enc {i : In} (hI : isI i = true) (hk : 0 ≤ i.mask ∧ i.mask < 18446744073709551616) : opW (encW i) = i.op.toNat ∧ readW (encW i) = i ∧ dI (encW i) = (i, 0) := by
  obtain ⟨c, -, -, -, -, h1, h2⟩ := encW_spec i hI hk
  have ho := code_op hI
  have e := opW_is (by omega) (by omega) h1
  have er : readW (encW i) = i := by
    unfold readW
    rw [e, show ((i.op.toNat : Nat) : Int) = i.op from by omega]
    exact h2
  refine ⟨e, er, ?_⟩
  unfold dI
  rw [er, if_pos hI]
end Go.Proofs.YtkcgnmicaigjfaaDoor
