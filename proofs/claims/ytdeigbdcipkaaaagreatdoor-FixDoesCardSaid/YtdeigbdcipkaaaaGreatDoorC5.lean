/- What is read of an instruction's word is the instruction; the word of what is read of a word is the word. -/
import Derived.Test.YtdeigbdcipkaaaaGreatDoorC4
namespace Go.Proofs.YtdeigbdcipkaaaaGreatDoor
set_option linter.unusedVariables false
set_option linter.unusedSimpArgs false
open Go.RowKit

theorem fw_of {w a n : Nat} {v : Int} (h : w / 2 ^ a % 2 ^ n = v.toNat) (hv : 0 ≤ v) : fw w a n = v := by unfold fw; omega
theorem of_fw (w a n : Nat) : w / 2 ^ a % 2 ^ n = (fw w a n).toNat := by unfold fw; omega
theorem div_mul (y z : Int) (hz : z ≠ 0) : (z * y).tdiv z = y := Int.mul_tdiv_cancel_left _ hz
theorem enc_pat {k : Nat} (hI : isS k = true) (hk : k < 18446744073709551616) : ∃ a b c : Int, encS k = (a, b, c, 0) ∧ 0 ≤ a ∧ a ≤ 1 ∧ 0 ≤ b ∧ b ≤ 63 ∧ 0 ≤ c ∧ c ≤ 63 ∧ decS a b c = ((k : Int), 0) := by
  rcases pat_or k hk with ⟨p, r, s, h⟩ | h
  · refine ⟨_, _, _, h.encS, ?_, ?_, ?_, ?_, ?_, ?_, h.decS⟩
    all_goals
      have h1 := h.one
      have h2 := h.less
      have h3 := h.turn
      rcases h.size with e | e | e | e | e | e <;> subst e <;> simp [upperS, leadS] <;> omega
  · rw [isS_none hk h] at hI; cases hI
theorem dec_err {n r s : Int} : (∃ a, decS n r s = (a, 0)) ∨ (decS n r s).1 = 0 ∧ (decS n r s).2 ≠ 0 := by
  unfold decS
  split
  · right; simp
  · split
    · right; simp
    · left; exact ⟨_, rfl⟩
theorem dec_enc {n r s : Int} (h : isS (decS n r s).1.toNat = true) : encS (decS n r s).1.toNat = (n, r, s, 0) ∧ decS n r s = ((decS n r s).1, 0) := by
  rcases @dec_err n r s with ⟨a, e⟩ | ⟨e, -⟩
  · obtain ⟨k, r', s', hp, h0, rfl, rfl, rfl⟩ := dec_pat e
    rw [e]
    exact ⟨hp.encS, rfl⟩
  · rw [e] at h; exact absurd h (by decide +kernel)
theorem dec_lt {n r s a : Int} (h : decS n r s = (a, 0)) : 0 ≤ a ∧ a < 18446744073709551616 := by
  obtain ⟨k, r', s', hp, h0, -⟩ := dec_pat h
  have := hp.lt
  omega
theorem sgn21 {a b : Int} (ha : 0 ≤ a) (ha2 : a < 524288) (hb : 0 ≤ b) (hb2 : b < 4) : 4 * (sgn a 19).1 + b = (sgn (4 * a + b) 21).1 := by
  unfold sgn
  simp only [Int.reduceToNat, Nat.reduceSub, Int.reducePow]
  repeat' split
  all_goals (try simp only [])
  all_goals omega
theorem pck_lit {v : Int} {n : Nat} (h1 : 1 ≤ n) (h2 : n ≤ 32) (c : - 2 ^ (n - 1) ≤ v) (d : v < 2 ^ (n - 1)) : 0 ≤ (pck v n).1 ∧ (pck v n).1 < 2 ^ n ∧ (sgn (pck v n).1 n).1 = v := pck_b h1 h2 c d

set_option maxHeartbeats 400000 in
theorem enc1 {o d n m a x k h t c : Int} (hs : shapeI o = 1) (hI : isI ⟨o, d, n, m, a, x, k, h, t, c⟩ = true) :
    okF (fldS 1 ⟨o, d, n, m, a, x, k, h, t, c⟩) ∧ ∀ w : Nat, (∀ f ∈ fldS 1 ⟨o, d, n, m, a, x, k, h, t, c⟩, w / 2 ^ f.1.toNat % 2 ^ f.2.1.toNat = f.2.2.toNat) → decW o 1 w = ⟨o, d, n, m, a, x, k, h, t, c⟩ := by
  have hf := facts1 hs hI
  obtain ⟨y, rfl⟩ : ∃ y, t = 16 * y := Int.dvd_of_tmod_eq_zero (by simp only [hf])
  simp only [fldS, div_mul _ 16 (by decide)]
  simp only [okF, List.mem_cons, List.mem_nil_iff, or_false, forall_eq_or_imp, forall_eq, Int.reduceToNat, Int.reducePow, false_imp_iff, implies_true, imp_self]
  refine ⟨by first | trivial | omega, fun w hw => ?_⟩
  obtain ⟨q0, q1, q2⟩ := hw
  have q0 := fw_of (a := 0) (n := 5) q0 (by omega)
  have q1 := fw_of (a := 5) (n := 16) q1 (by omega)
  have q2 := fw_of (a := 21) (n := 2) q2 (by omega)
  simp only [decW, q0, q1, q2]
  grind

set_option maxHeartbeats 400000 in
theorem enc2 {o d n m a x k h t c : Int} (hs : shapeI o = 2) (hI : isI ⟨o, d, n, m, a, x, k, h, t, c⟩ = true) :
    okF (fldS 2 ⟨o, d, n, m, a, x, k, h, t, c⟩) ∧ ∀ w : Nat, (∀ f ∈ fldS 2 ⟨o, d, n, m, a, x, k, h, t, c⟩, w / 2 ^ f.1.toNat % 2 ^ f.2.1.toNat = f.2.2.toNat) → decW o 2 w = ⟨o, d, n, m, a, x, k, h, t, c⟩ := by
  have hf := facts2 hs hI
  obtain ⟨y, rfl⟩ : ∃ y, t = 12 * y := Int.dvd_of_tmod_eq_zero (by simp only [hf])
  simp only [fldS, div_mul _ 12 (by decide)]
  simp only [okF, List.mem_cons, List.mem_nil_iff, or_false, forall_eq_or_imp, forall_eq, Int.reduceToNat, Int.reducePow, false_imp_iff, implies_true, imp_self]
  refine ⟨by first | trivial | omega, fun w hw => ?_⟩
  obtain ⟨q0, q1, q2, q3⟩ := hw
  have q0 := fw_of (a := 0) (n := 5) q0 (by omega)
  have q1 := fw_of (a := 5) (n := 5) q1 (by omega)
  have q2 := fw_of (a := 10) (n := 12) q2 (by omega)
  have q3 := fw_of (a := 22) (n := 1) q3 (by omega)
  simp only [decW, q0, q1, q2, q3]
  grind

set_option maxHeartbeats 400000 in
theorem enc3 {o d n m a x k h t c : Int} (hs : shapeI o = 3) (hI : isI ⟨o, d, n, m, a, x, k, h, t, c⟩ = true) (hk : 0 ≤ k ∧ k < 18446744073709551616) :
    okF (fldS 3 ⟨o, d, n, m, a, x, k, h, t, c⟩) ∧ ∀ w : Nat, (∀ f ∈ fldS 3 ⟨o, d, n, m, a, x, k, h, t, c⟩, w / 2 ^ f.1.toNat % 2 ^ f.2.1.toNat = f.2.2.toNat) → decW o 3 w = ⟨o, d, n, m, a, x, k, h, t, c⟩ := by
  have hf := facts3 hs hI
  obtain ⟨k, rfl⟩ := Int.eq_ofNat_of_zero_le hk.1
  obtain ⟨e1, e2, e3, he, r1, r2, r3, r4, r5, r6, hd⟩ := enc_pat (k := k) hf.2 (by omega)
  simp only [fldS, Int.toNat_natCast, he]
  simp only [okF, List.mem_cons, List.mem_nil_iff, or_false, forall_eq_or_imp, forall_eq, Int.reduceToNat, Int.reducePow, false_imp_iff, implies_true, imp_self]
  refine ⟨by first | trivial | omega, fun w hw => ?_⟩
  obtain ⟨q0, q1, q2, q3, q4⟩ := hw
  have q0 := fw_of (a := 0) (n := 5) q0 (by omega)
  have q1 := fw_of (a := 5) (n := 5) q1 (by omega)
  have q2 := fw_of (a := 10) (n := 6) q2 (by omega)
  have q3 := fw_of (a := 16) (n := 6) q3 (by omega)
  have q4 := fw_of (a := 22) (n := 1) q4 (by omega)
  simp only [decW, q0, q1, q2, q3, q4]
  rw [hd]
  grind

set_option maxHeartbeats 400000 in
theorem enc4 {o d n m a x k h t c : Int} (hs : shapeI o = 4) (hI : isI ⟨o, d, n, m, a, x, k, h, t, c⟩ = true) :
    okF (fldS 4 ⟨o, d, n, m, a, x, k, h, t, c⟩) ∧ ∀ w : Nat, (∀ f ∈ fldS 4 ⟨o, d, n, m, a, x, k, h, t, c⟩, w / 2 ^ f.1.toNat % 2 ^ f.2.1.toNat = f.2.2.toNat) → decW o 4 w = ⟨o, d, n, m, a, x, k, h, t, c⟩ := by
  have hf := facts4 hs hI
  simp only [fldS]
  simp only [okF, List.mem_cons, List.mem_nil_iff, or_false, forall_eq_or_imp, forall_eq, Int.reduceToNat, Int.reducePow, false_imp_iff, implies_true, imp_self]
  refine ⟨by first | trivial | omega, fun w hw => ?_⟩
  obtain ⟨q0, q1, q2, q3, q4⟩ := hw
  have q0 := fw_of (a := 0) (n := 5) q0 (by omega)
  have q1 := fw_of (a := 5) (n := 5) q1 (by omega)
  have q2 := fw_of (a := 10) (n := 6) q2 (by omega)
  have q3 := fw_of (a := 16) (n := 5) q3 (by omega)
  have q4 := fw_of (a := 22) (n := 2) q4 (by omega)
  simp only [decW, q0, q1, q2, q3, q4]
  grind

set_option maxHeartbeats 400000 in
theorem enc5 {o d n m a x k h t c : Int} (hs : shapeI o = 5) (hI : isI ⟨o, d, n, m, a, x, k, h, t, c⟩ = true) :
    okF (fldS 5 ⟨o, d, n, m, a, x, k, h, t, c⟩) ∧ ∀ w : Nat, (∀ f ∈ fldS 5 ⟨o, d, n, m, a, x, k, h, t, c⟩, w / 2 ^ f.1.toNat % 2 ^ f.2.1.toNat = f.2.2.toNat) → decW o 5 w = ⟨o, d, n, m, a, x, k, h, t, c⟩ := by
  have hf := facts5 hs hI
  simp only [fldS]
  simp only [okF, List.mem_cons, List.mem_nil_iff, or_false, forall_eq_or_imp, forall_eq, Int.reduceToNat, Int.reducePow, false_imp_iff, implies_true, imp_self]
  refine ⟨by first | trivial | omega, fun w hw => ?_⟩
  obtain ⟨q0, q1, q2, q3, q4⟩ := hw
  have q0 := fw_of (a := 0) (n := 5) q0 (by omega)
  have q1 := fw_of (a := 5) (n := 5) q1 (by omega)
  have q2 := fw_of (a := 10) (n := 6) q2 (by omega)
  have q3 := fw_of (a := 16) (n := 5) q3 (by omega)
  have q4 := fw_of (a := 22) (n := 2) q4 (by omega)
  simp only [decW, q0, q1, q2, q3, q4]
  grind

set_option maxHeartbeats 400000 in
theorem enc6 {o d n m a x k h t c : Int} (hs : shapeI o = 6) (hI : isI ⟨o, d, n, m, a, x, k, h, t, c⟩ = true) :
    okF (fldS 6 ⟨o, d, n, m, a, x, k, h, t, c⟩) ∧ ∀ w : Nat, (∀ f ∈ fldS 6 ⟨o, d, n, m, a, x, k, h, t, c⟩, w / 2 ^ f.1.toNat % 2 ^ f.2.1.toNat = f.2.2.toNat) → decW o 6 w = ⟨o, d, n, m, a, x, k, h, t, c⟩ := by
  have hf := facts6 hs hI
  simp only [fldS]
  simp only [okF, List.mem_cons, List.mem_nil_iff, or_false, forall_eq_or_imp, forall_eq, Int.reduceToNat, Int.reducePow, false_imp_iff, implies_true, imp_self]
  refine ⟨by first | trivial | omega, fun w hw => ?_⟩
  obtain ⟨q0, q1, q2, q3⟩ := hw
  have q0 := fw_of (a := 0) (n := 5) q0 (by omega)
  have q1 := fw_of (a := 5) (n := 5) q1 (by omega)
  have q2 := fw_of (a := 10) (n := 5) q2 (by omega)
  have q3 := fw_of (a := 16) (n := 5) q3 (by omega)
  simp only [decW, q0, q1, q2, q3]
  grind

set_option maxHeartbeats 400000 in
theorem enc7 {o d n m a x k h t c : Int} (hs : shapeI o = 7) (hI : isI ⟨o, d, n, m, a, x, k, h, t, c⟩ = true) :
    okF (fldS 7 ⟨o, d, n, m, a, x, k, h, t, c⟩) ∧ ∀ w : Nat, (∀ f ∈ fldS 7 ⟨o, d, n, m, a, x, k, h, t, c⟩, w / 2 ^ f.1.toNat % 2 ^ f.2.1.toNat = f.2.2.toNat) → decW o 7 w = ⟨o, d, n, m, a, x, k, h, t, c⟩ := by
  have hf := facts7 hs hI
  obtain ⟨y, rfl⟩ : ∃ y, x = 8 * y := Int.dvd_of_tmod_eq_zero (by simp only [hf])
  simp only [fldS, div_mul _ 8 (by decide)]
  simp only [okF, List.mem_cons, List.mem_nil_iff, or_false, forall_eq_or_imp, forall_eq, Int.reduceToNat, Int.reducePow, false_imp_iff, implies_true, imp_self]
  refine ⟨by first | trivial | omega, fun w hw => ?_⟩
  obtain ⟨q0, q1, q2⟩ := hw
  have q0 := fw_of (a := 0) (n := 5) q0 (by omega)
  have q1 := fw_of (a := 5) (n := 5) q1 (by omega)
  have q2 := fw_of (a := 10) (n := 12) q2 (by omega)
  simp only [decW, q0, q1, q2]
  grind

set_option maxHeartbeats 400000 in
theorem enc8 {o d n m a x k h t c : Int} (hs : shapeI o = 8) (hI : isI ⟨o, d, n, m, a, x, k, h, t, c⟩ = true) :
    okF (fldS 8 ⟨o, d, n, m, a, x, k, h, t, c⟩) ∧ ∀ w : Nat, (∀ f ∈ fldS 8 ⟨o, d, n, m, a, x, k, h, t, c⟩, w / 2 ^ f.1.toNat % 2 ^ f.2.1.toNat = f.2.2.toNat) → decW o 8 w = ⟨o, d, n, m, a, x, k, h, t, c⟩ := by
  have hf := facts8 hs hI
  simp only [fldS]
  simp only [okF, List.mem_cons, List.mem_nil_iff, or_false, forall_eq_or_imp, forall_eq, Int.reduceToNat, Int.reducePow, false_imp_iff, implies_true, imp_self]
  refine ⟨by first | trivial | omega, fun w hw => ?_⟩
  obtain ⟨q0, q1, q2⟩ := hw
  have q0 := fw_of (a := 0) (n := 5) q0 (by omega)
  have q1 := fw_of (a := 5) (n := 5) q1 (by omega)
  have q2 := fw_of (a := 10) (n := 12) q2 (by omega)
  simp only [decW, q0, q1, q2]
  grind

set_option maxHeartbeats 400000 in
theorem enc9 {o d n m a x k h t c : Int} (hs : shapeI o = 9) (hI : isI ⟨o, d, n, m, a, x, k, h, t, c⟩ = true) :
    okF (fldS 9 ⟨o, d, n, m, a, x, k, h, t, c⟩) ∧ ∀ w : Nat, (∀ f ∈ fldS 9 ⟨o, d, n, m, a, x, k, h, t, c⟩, w / 2 ^ f.1.toNat % 2 ^ f.2.1.toNat = f.2.2.toNat) → decW o 9 w = ⟨o, d, n, m, a, x, k, h, t, c⟩ := by
  have hf := facts9 hs hI
  obtain ⟨y, rfl⟩ : ∃ y, x = 4 * y := Int.dvd_of_tmod_eq_zero (by simp only [hf])
  simp only [fldS, div_mul _ 4 (by decide)]
  obtain ⟨p1, p2, p3⟩ := pck_lit (v := y) (n := 19) (by decide) (by decide) (by simp only [Nat.reduceSub, Int.reducePow]; omega) (by simp only [Nat.reduceSub, Int.reducePow]; omega)
  simp only [Int.reducePow, Int.cast_ofNat_Int] at p1 p2 p3
  generalize (pck y 19).1 = p at *
  simp only [okF, List.mem_cons, List.mem_nil_iff, or_false, forall_eq_or_imp, forall_eq, Int.reduceToNat, Int.reducePow, false_imp_iff, implies_true, imp_self]
  refine ⟨by first | trivial | omega, fun w hw => ?_⟩
  obtain ⟨q0, q1⟩ := hw
  have q0 := fw_of (a := 0) (n := 5) q0 (by omega)
  have q1 := fw_of (a := 5) (n := 19) q1 (by omega)
  simp only [decW, q0, q1]
  try rw [p3]
  try rw [p4]
  grind

set_option maxHeartbeats 400000 in
theorem enc10 {o d n m a x k h t c : Int} (hs : shapeI o = 10) (hI : isI ⟨o, d, n, m, a, x, k, h, t, c⟩ = true) :
    okF (fldS 10 ⟨o, d, n, m, a, x, k, h, t, c⟩) ∧ ∀ w : Nat, (∀ f ∈ fldS 10 ⟨o, d, n, m, a, x, k, h, t, c⟩, w / 2 ^ f.1.toNat % 2 ^ f.2.1.toNat = f.2.2.toNat) → decW o 10 w = ⟨o, d, n, m, a, x, k, h, t, c⟩ := by
  have hf := facts10 hs hI
  simp only [fldS]
  obtain ⟨p1, p2, p3⟩ := pck_lit (v := x) (n := 21) (by decide) (by decide) (by simp only [Nat.reduceSub, Int.reducePow]; omega) (by simp only [Nat.reduceSub, Int.reducePow]; omega)
  simp only [Int.reducePow, Int.cast_ofNat_Int] at p1 p2 p3
  generalize (pck x 21).1 = p at *
  have p4 := sgn21 (a := p / 4) (b := p % 4) (by omega) (by omega) (by omega) (by omega)
  rw [show 4 * (p / 4) + p % 4 = p from by omega, p3] at p4
  simp only [okF, List.mem_cons, List.mem_nil_iff, or_false, forall_eq_or_imp, forall_eq, Int.reduceToNat, Int.reducePow, false_imp_iff, implies_true, imp_self]
  refine ⟨by first | trivial | omega, fun w hw => ?_⟩
  obtain ⟨q0, q1, q2⟩ := hw
  have q0 := fw_of (a := 0) (n := 5) q0 (by omega)
  have q1 := fw_of (a := 5) (n := 19) q1 (by omega)
  have q2 := fw_of (a := 29) (n := 2) q2 (by omega)
  simp only [decW, q0, q1, q2]
  try rw [p3]
  try rw [p4]
  grind

set_option maxHeartbeats 400000 in
theorem enc11 {o d n m a x k h t c : Int} (hs : shapeI o = 11) (hI : isI ⟨o, d, n, m, a, x, k, h, t, c⟩ = true) :
    okF (fldS 11 ⟨o, d, n, m, a, x, k, h, t, c⟩) ∧ ∀ w : Nat, (∀ f ∈ fldS 11 ⟨o, d, n, m, a, x, k, h, t, c⟩, w / 2 ^ f.1.toNat % 2 ^ f.2.1.toNat = f.2.2.toNat) → decW o 11 w = ⟨o, d, n, m, a, x, k, h, t, c⟩ := by
  have hf := facts11 hs hI
  obtain ⟨y, rfl⟩ : ∃ y, x = 4 * y := Int.dvd_of_tmod_eq_zero (by simp only [hf])
  simp only [fldS, div_mul _ 4 (by decide)]
  obtain ⟨p1, p2, p3⟩ := pck_lit (v := y) (n := 26) (by decide) (by decide) (by simp only [Nat.reduceSub, Int.reducePow]; omega) (by simp only [Nat.reduceSub, Int.reducePow]; omega)
  simp only [Int.reducePow, Int.cast_ofNat_Int] at p1 p2 p3
  generalize (pck y 26).1 = p at *
  simp only [okF, List.mem_cons, List.mem_nil_iff, or_false, forall_eq_or_imp, forall_eq, Int.reduceToNat, Int.reducePow, false_imp_iff, implies_true, imp_self]
  refine ⟨by first | trivial | omega, fun w hw => ?_⟩
  have q0 := hw
  have q0 := fw_of (a := 0) (n := 26) q0 (by omega)
  simp only [decW, q0]
  try rw [p3]
  try rw [p4]
  grind

set_option maxHeartbeats 400000 in
theorem enc12 {o d n m a x k h t c : Int} (hs : shapeI o = 12) (hI : isI ⟨o, d, n, m, a, x, k, h, t, c⟩ = true) :
    okF (fldS 12 ⟨o, d, n, m, a, x, k, h, t, c⟩) ∧ ∀ w : Nat, (∀ f ∈ fldS 12 ⟨o, d, n, m, a, x, k, h, t, c⟩, w / 2 ^ f.1.toNat % 2 ^ f.2.1.toNat = f.2.2.toNat) → decW o 12 w = ⟨o, d, n, m, a, x, k, h, t, c⟩ := by
  have hf := facts12 hs hI
  obtain ⟨y, rfl⟩ : ∃ y, x = 4 * y := Int.dvd_of_tmod_eq_zero (by simp only [hf])
  simp only [fldS, div_mul _ 4 (by decide)]
  obtain ⟨p1, p2, p3⟩ := pck_lit (v := y) (n := 19) (by decide) (by decide) (by simp only [Nat.reduceSub, Int.reducePow]; omega) (by simp only [Nat.reduceSub, Int.reducePow]; omega)
  simp only [Int.reducePow, Int.cast_ofNat_Int] at p1 p2 p3
  generalize (pck y 19).1 = p at *
  simp only [okF, List.mem_cons, List.mem_nil_iff, or_false, forall_eq_or_imp, forall_eq, Int.reduceToNat, Int.reducePow, false_imp_iff, implies_true, imp_self]
  refine ⟨by first | trivial | omega, fun w hw => ?_⟩
  obtain ⟨q0, q1⟩ := hw
  have q0 := fw_of (a := 0) (n := 4) q0 (by omega)
  have q1 := fw_of (a := 5) (n := 19) q1 (by omega)
  simp only [decW, q0, q1]
  try rw [p3]
  try rw [p4]
  grind

set_option maxHeartbeats 400000 in
theorem enc13 {o d n m a x k h t c : Int} (hs : shapeI o = 13) (hI : isI ⟨o, d, n, m, a, x, k, h, t, c⟩ = true) :
    okF (fldS 13 ⟨o, d, n, m, a, x, k, h, t, c⟩) ∧ ∀ w : Nat, (∀ f ∈ fldS 13 ⟨o, d, n, m, a, x, k, h, t, c⟩, w / 2 ^ f.1.toNat % 2 ^ f.2.1.toNat = f.2.2.toNat) → decW o 13 w = ⟨o, d, n, m, a, x, k, h, t, c⟩ := by
  have hf := facts13 hs hI
  simp only [fldS]
  simp only [okF, List.mem_cons, List.mem_nil_iff, or_false, forall_eq_or_imp, forall_eq, Int.reduceToNat, Int.reducePow, false_imp_iff, implies_true, imp_self]
  refine ⟨by first | trivial | omega, fun w hw => ?_⟩
  have q0 := hw
  have q0 := fw_of (a := 5) (n := 5) q0 (by omega)
  simp only [decW, q0]
  grind

set_option maxHeartbeats 400000 in
theorem enc14 {o d n m a x k h t c : Int} (hs : shapeI o = 14) (hI : isI ⟨o, d, n, m, a, x, k, h, t, c⟩ = true) :
    okF (fldS 14 ⟨o, d, n, m, a, x, k, h, t, c⟩) ∧ ∀ w : Nat, (∀ f ∈ fldS 14 ⟨o, d, n, m, a, x, k, h, t, c⟩, w / 2 ^ f.1.toNat % 2 ^ f.2.1.toNat = f.2.2.toNat) → decW o 14 w = ⟨o, d, n, m, a, x, k, h, t, c⟩ := by
  have hf := facts14 hs hI
  simp only [fldS]
  simp only [okF, List.mem_cons, List.mem_nil_iff, or_false, forall_eq_or_imp, forall_eq, Int.reduceToNat, Int.reducePow, false_imp_iff, implies_true, imp_self]
  refine ⟨by first | trivial | omega, fun w hw => ?_⟩
  have q0 := hw
  have q0 := fw_of (a := 5) (n := 16) q0 (by omega)
  simp only [decW, q0]
  grind

set_option maxHeartbeats 400000 in
theorem enc15 {o d n m a x k h t c : Int} (hs : shapeI o = 15) (hI : isI ⟨o, d, n, m, a, x, k, h, t, c⟩ = true) :
    okF (fldS 15 ⟨o, d, n, m, a, x, k, h, t, c⟩) ∧ ∀ w : Nat, (∀ f ∈ fldS 15 ⟨o, d, n, m, a, x, k, h, t, c⟩, w / 2 ^ f.1.toNat % 2 ^ f.2.1.toNat = f.2.2.toNat) → decW o 15 w = ⟨o, d, n, m, a, x, k, h, t, c⟩ := by
  have hf := facts15 hs hI
  simp only [fldS]
  simp only [okF, List.mem_cons, List.mem_nil_iff, or_false, forall_eq_or_imp, forall_eq, Int.reduceToNat, Int.reducePow, false_imp_iff, implies_true, imp_self]
  refine ⟨by first | trivial | omega, fun w hw => ?_⟩
  simp only [decW]
  grind

set_option maxHeartbeats 400000 in
theorem enc16 {o d n m a x k h t c : Int} (hs : shapeI o = 16) (hI : isI ⟨o, d, n, m, a, x, k, h, t, c⟩ = true) :
    okF (fldS 16 ⟨o, d, n, m, a, x, k, h, t, c⟩) ∧ ∀ w : Nat, (∀ f ∈ fldS 16 ⟨o, d, n, m, a, x, k, h, t, c⟩, w / 2 ^ f.1.toNat % 2 ^ f.2.1.toNat = f.2.2.toNat) → decW o 16 w = ⟨o, d, n, m, a, x, k, h, t, c⟩ := by
  have hf := facts16 hs hI
  simp only [fldS]
  simp only [okF, List.mem_cons, List.mem_nil_iff, or_false, forall_eq_or_imp, forall_eq, Int.reduceToNat, Int.reducePow, false_imp_iff, implies_true, imp_self]
  refine ⟨by first | trivial | omega, fun w hw => ?_⟩
  obtain ⟨q0, q1, q2, q3⟩ := hw
  have q0 := fw_of (a := 0) (n := 5) q0 (by omega)
  have q1 := fw_of (a := 5) (n := 5) q1 (by omega)
  have q2 := fw_of (a := 12) (n := 4) q2 (by omega)
  have q3 := fw_of (a := 16) (n := 5) q3 (by omega)
  simp only [decW, q0, q1, q2, q3]
  grind

set_option maxHeartbeats 400000 in
theorem back1 {o : Int} {w : Nat} (hs : shapeI o = 1) (hI : isI (decW o 1 w) = true) : ∀ f ∈ fldS 1 (decW o 1 w), f.2.2.toNat = w / 2 ^ f.1.toNat % 2 ^ f.2.1.toNat := by
  simp only [fldS, decW, div_mul _ 16 (by decide)]
  simp only [List.mem_cons, List.mem_nil_iff, or_false, forall_eq_or_imp, forall_eq, Int.reduceToNat, false_imp_iff, implies_true]
  exact ⟨(of_fw w 0 5).symm, (of_fw w 5 16).symm, (of_fw w 21 2).symm⟩

set_option maxHeartbeats 400000 in
theorem back2 {o : Int} {w : Nat} (hs : shapeI o = 2) (hI : isI (decW o 2 w) = true) : ∀ f ∈ fldS 2 (decW o 2 w), f.2.2.toNat = w / 2 ^ f.1.toNat % 2 ^ f.2.1.toNat := by
  simp only [fldS, decW, div_mul _ 12 (by decide)]
  simp only [List.mem_cons, List.mem_nil_iff, or_false, forall_eq_or_imp, forall_eq, Int.reduceToNat, false_imp_iff, implies_true]
  exact ⟨(of_fw w 0 5).symm, (of_fw w 5 5).symm, (of_fw w 10 12).symm, (of_fw w 22 1).symm⟩

set_option maxHeartbeats 400000 in
theorem back3 {o : Int} {w : Nat} (hs : shapeI o = 3) (hI : isI (decW o 3 w) = true) : ∀ f ∈ fldS 3 (decW o 3 w), f.2.2.toNat = w / 2 ^ f.1.toNat % 2 ^ f.2.1.toNat := by
  have hS : isS (decW o 3 w).mask.toNat = true := by
    have := (isI_of (s := 3) hI hs).2.2
    simpa [numI] using this
  simp only [decW] at hS
  have he := (dec_enc hS).1
  simp only [fldS, decW, he]
  simp only [List.mem_cons, List.mem_nil_iff, or_false, forall_eq_or_imp, forall_eq, Int.reduceToNat, false_imp_iff, implies_true]
  exact ⟨(of_fw w 0 5).symm, (of_fw w 5 5).symm, (of_fw w 10 6).symm, (of_fw w 16 6).symm, (of_fw w 22 1).symm⟩

set_option maxHeartbeats 400000 in
theorem back4 {o : Int} {w : Nat} (hs : shapeI o = 4) (hI : isI (decW o 4 w) = true) : ∀ f ∈ fldS 4 (decW o 4 w), f.2.2.toNat = w / 2 ^ f.1.toNat % 2 ^ f.2.1.toNat := by
  simp only [fldS, decW]
  simp only [List.mem_cons, List.mem_nil_iff, or_false, forall_eq_or_imp, forall_eq, Int.reduceToNat, false_imp_iff, implies_true]
  exact ⟨(of_fw w 0 5).symm, (of_fw w 5 5).symm, (of_fw w 10 6).symm, (of_fw w 16 5).symm, (of_fw w 22 2).symm⟩

set_option maxHeartbeats 400000 in
theorem back5 {o : Int} {w : Nat} (hs : shapeI o = 5) (hI : isI (decW o 5 w) = true) : ∀ f ∈ fldS 5 (decW o 5 w), f.2.2.toNat = w / 2 ^ f.1.toNat % 2 ^ f.2.1.toNat := by
  simp only [fldS, decW]
  simp only [List.mem_cons, List.mem_nil_iff, or_false, forall_eq_or_imp, forall_eq, Int.reduceToNat, false_imp_iff, implies_true]
  exact ⟨(of_fw w 0 5).symm, (of_fw w 5 5).symm, (of_fw w 10 6).symm, (of_fw w 16 5).symm, (of_fw w 22 2).symm⟩

set_option maxHeartbeats 400000 in
theorem back6 {o : Int} {w : Nat} (hs : shapeI o = 6) (hI : isI (decW o 6 w) = true) : ∀ f ∈ fldS 6 (decW o 6 w), f.2.2.toNat = w / 2 ^ f.1.toNat % 2 ^ f.2.1.toNat := by
  simp only [fldS, decW]
  simp only [List.mem_cons, List.mem_nil_iff, or_false, forall_eq_or_imp, forall_eq, Int.reduceToNat, false_imp_iff, implies_true]
  exact ⟨(of_fw w 0 5).symm, (of_fw w 5 5).symm, (of_fw w 10 5).symm, (of_fw w 16 5).symm⟩

set_option maxHeartbeats 400000 in
theorem back7 {o : Int} {w : Nat} (hs : shapeI o = 7) (hI : isI (decW o 7 w) = true) : ∀ f ∈ fldS 7 (decW o 7 w), f.2.2.toNat = w / 2 ^ f.1.toNat % 2 ^ f.2.1.toNat := by
  simp only [fldS, decW, div_mul _ 8 (by decide)]
  simp only [List.mem_cons, List.mem_nil_iff, or_false, forall_eq_or_imp, forall_eq, Int.reduceToNat, false_imp_iff, implies_true]
  exact ⟨(of_fw w 0 5).symm, (of_fw w 5 5).symm, (of_fw w 10 12).symm⟩

set_option maxHeartbeats 400000 in
theorem back8 {o : Int} {w : Nat} (hs : shapeI o = 8) (hI : isI (decW o 8 w) = true) : ∀ f ∈ fldS 8 (decW o 8 w), f.2.2.toNat = w / 2 ^ f.1.toNat % 2 ^ f.2.1.toNat := by
  simp only [fldS, decW]
  simp only [List.mem_cons, List.mem_nil_iff, or_false, forall_eq_or_imp, forall_eq, Int.reduceToNat, false_imp_iff, implies_true]
  exact ⟨(of_fw w 0 5).symm, (of_fw w 5 5).symm, (of_fw w 10 12).symm⟩

set_option maxHeartbeats 400000 in
theorem back9 {o : Int} {w : Nat} (hs : shapeI o = 9) (hI : isI (decW o 9 w) = true) : ∀ f ∈ fldS 9 (decW o 9 w), f.2.2.toNat = w / 2 ^ f.1.toNat % 2 ^ f.2.1.toNat := by
  have b := fw_lt w 5 19
  simp only [Int.reducePow] at b
  have p := (sgn_b (v := fw w 5 19) (n := 19) (by decide) (by decide) b.1 (by simp only [Int.reducePow]; exact b.2)).1
  simp only [Int.cast_ofNat_Int] at p
  simp only [fldS, decW, div_mul _ 4 (by decide), p]
  simp only [List.mem_cons, List.mem_nil_iff, or_false, forall_eq_or_imp, forall_eq, Int.reduceToNat, false_imp_iff, implies_true]
  exact ⟨(of_fw w 0 5).symm, (of_fw w 5 19).symm⟩

set_option maxHeartbeats 400000 in
theorem back10 {o : Int} {w : Nat} (hs : shapeI o = 10) (hI : isI (decW o 10 w) = true) : ∀ f ∈ fldS 10 (decW o 10 w), f.2.2.toNat = w / 2 ^ f.1.toNat % 2 ^ f.2.1.toNat := by
  have b := fw_lt w 5 19
  simp only [Int.reducePow] at b
  have b2 := fw_lt w 29 2
  simp only [Int.reducePow] at b2
  have e := sgn21 b.1 b.2 b2.1 b2.2
  have p := (sgn_b (v := 4 * fw w 5 19 + fw w 29 2) (n := 21) (by decide) (by decide) (by omega) (by simp only [Int.reducePow]; omega)).1
  simp only [Int.cast_ofNat_Int] at p
  have d1 : (4 * fw w 5 19 + fw w 29 2) / 4 = fw w 5 19 := by omega
  have d2 : (4 * fw w 5 19 + fw w 29 2) % 4 = fw w 29 2 := by omega
  simp only [fldS, decW, e, p, d1, d2]
  simp only [List.mem_cons, List.mem_nil_iff, or_false, forall_eq_or_imp, forall_eq, Int.reduceToNat, false_imp_iff, implies_true]
  exact ⟨(of_fw w 0 5).symm, (of_fw w 5 19).symm, (of_fw w 29 2).symm⟩

set_option maxHeartbeats 400000 in
theorem back11 {o : Int} {w : Nat} (hs : shapeI o = 11) (hI : isI (decW o 11 w) = true) : ∀ f ∈ fldS 11 (decW o 11 w), f.2.2.toNat = w / 2 ^ f.1.toNat % 2 ^ f.2.1.toNat := by
  have b := fw_lt w 0 26
  simp only [Int.reducePow] at b
  have p := (sgn_b (v := fw w 0 26) (n := 26) (by decide) (by decide) b.1 (by simp only [Int.reducePow]; exact b.2)).1
  simp only [Int.cast_ofNat_Int] at p
  simp only [fldS, decW, div_mul _ 4 (by decide), p]
  simp only [List.mem_cons, List.mem_nil_iff, or_false, forall_eq_or_imp, forall_eq, Int.reduceToNat, false_imp_iff, implies_true]
  exact (of_fw w 0 26).symm

set_option maxHeartbeats 400000 in
theorem back12 {o : Int} {w : Nat} (hs : shapeI o = 12) (hI : isI (decW o 12 w) = true) : ∀ f ∈ fldS 12 (decW o 12 w), f.2.2.toNat = w / 2 ^ f.1.toNat % 2 ^ f.2.1.toNat := by
  have b := fw_lt w 5 19
  simp only [Int.reducePow] at b
  have p := (sgn_b (v := fw w 5 19) (n := 19) (by decide) (by decide) b.1 (by simp only [Int.reducePow]; exact b.2)).1
  simp only [Int.cast_ofNat_Int] at p
  simp only [fldS, decW, div_mul _ 4 (by decide), p]
  simp only [List.mem_cons, List.mem_nil_iff, or_false, forall_eq_or_imp, forall_eq, Int.reduceToNat, false_imp_iff, implies_true]
  exact ⟨(of_fw w 0 4).symm, (of_fw w 5 19).symm⟩

set_option maxHeartbeats 400000 in
theorem back13 {o : Int} {w : Nat} (hs : shapeI o = 13) (hI : isI (decW o 13 w) = true) : ∀ f ∈ fldS 13 (decW o 13 w), f.2.2.toNat = w / 2 ^ f.1.toNat % 2 ^ f.2.1.toNat := by
  simp only [fldS, decW]
  simp only [List.mem_cons, List.mem_nil_iff, or_false, forall_eq_or_imp, forall_eq, Int.reduceToNat, false_imp_iff, implies_true]
  exact (of_fw w 5 5).symm

set_option maxHeartbeats 400000 in
theorem back14 {o : Int} {w : Nat} (hs : shapeI o = 14) (hI : isI (decW o 14 w) = true) : ∀ f ∈ fldS 14 (decW o 14 w), f.2.2.toNat = w / 2 ^ f.1.toNat % 2 ^ f.2.1.toNat := by
  simp only [fldS, decW]
  simp only [List.mem_cons, List.mem_nil_iff, or_false, forall_eq_or_imp, forall_eq, Int.reduceToNat, false_imp_iff, implies_true]
  exact (of_fw w 5 16).symm

set_option maxHeartbeats 400000 in
theorem back15 {o : Int} {w : Nat} (hs : shapeI o = 15) (hI : isI (decW o 15 w) = true) : ∀ f ∈ fldS 15 (decW o 15 w), f.2.2.toNat = w / 2 ^ f.1.toNat % 2 ^ f.2.1.toNat := by
  simp only [fldS, decW]
  simp only [List.mem_cons, List.mem_nil_iff, or_false, forall_eq_or_imp, forall_eq, Int.reduceToNat, false_imp_iff, implies_true]

set_option maxHeartbeats 400000 in
theorem back16 {o : Int} {w : Nat} (hs : shapeI o = 16) (hI : isI (decW o 16 w) = true) : ∀ f ∈ fldS 16 (decW o 16 w), f.2.2.toNat = w / 2 ^ f.1.toNat % 2 ^ f.2.1.toNat := by
  simp only [fldS, decW]
  simp only [List.mem_cons, List.mem_nil_iff, or_false, forall_eq_or_imp, forall_eq, Int.reduceToNat, false_imp_iff, implies_true]
  exact ⟨(of_fw w 0 5).symm, (of_fw w 5 5).symm, (of_fw w 12 4).symm, (of_fw w 16 5).symm⟩
end Go.Proofs.YtdeigbdcipkaaaaGreatDoor
