/- Shape by shape: what is read of an instruction's fields is the instruction, and the other way round; no function of the program in sight. -/
import Derived.Test.YtdeigbdcipkaaaaGreatDoorC3
namespace Go.Proofs.YtdeigbdcipkaaaaGreatDoor
set_option linter.unusedVariables false
set_option linter.unusedSimpArgs false
open Go.RowKit

theorem fw_lt (w a n : Nat) : 0 ≤ fw w a n ∧ fw w a n < 2 ^ n := by
  unfold fw
  have h : w / 2 ^ a % 2 ^ n < 2 ^ n := Nat.mod_lt _ (Nat.two_pow_pos n)
  refine ⟨by omega, ?_⟩
  have := Int.ofNat_lt.2 h
  rwa [pow_cast] at this
theorem pck_in {v : Int} {n : Nat} (h1 : 1 ≤ n) (h2 : n ≤ 32) (c : - 2 ^ (n - 1) ≤ v) (d : v < 2 ^ (n - 1)) : pck v n = (v % 2 ^ n, 0) := by
  have := pck2 (v := v) (n := (n : Int)) (by omega) (by omega) (by simpa using c) (by simpa using d)
  simpa using this
theorem pck_b {v : Int} {n : Nat} (h1 : 1 ≤ n) (h2 : n ≤ 32) (c : - 2 ^ (n - 1) ≤ v) (d : v < 2 ^ (n - 1)) : 0 ≤ (pck v n).1 ∧ (pck v n).1 < 2 ^ n ∧ (sgn (pck v n).1 n).1 = v := by
  have e := pck_in h1 h2 c d
  have b := pck_back e
  rw [e]
  simp only []
  have hp : (0 : Int) < 2 ^ n := by have := pow_pos' n; omega
  exact ⟨Int.emod_nonneg _ (by omega), Int.emod_lt_of_pos _ hp, by rw [b.1]⟩
theorem sgn_b {v : Int} {n : Nat} (h1 : 1 ≤ n) (h2 : n ≤ 32) (c : 0 ≤ v) (d : v < 2 ^ n) : pck (sgn v n).1 n = (v, 0) ∧ (sgn v n) = ((sgn v n).1, 0) := by
  have e : sgn v n = ((sgn v n).1, 0) := by
    unfold sgn
    rw [if_neg (by omega), if_neg (by simp only [Int.toNat_natCast]; omega)]
    split <;> rfl
  exact ⟨(sgn_back c e).1, e⟩
theorem isI_of {i : In} {s : Nat} (h : isI i = true) (hs : shapeI i.op = s) : ownI s i = i ∧ regsI i = true ∧ numI s i = true := by
  unfold isI at h
  rw [hs] at h
  simp only [Bool.and_eq_true] at h
  refine ⟨?_, h.1.2, h.2⟩
  have := h.1.1.2
  unfold sameI at this
  simp only [Bool.and_eq_true, beq_iff_eq] at this
  obtain ⟨⟨⟨⟨⟨⟨⟨⟨⟨e0, e1⟩, e2⟩, e3⟩, e4⟩, e5⟩, e6⟩, e7⟩, e8⟩, e9⟩ := this
  cases i
  simp only [ownI, In.mk.injEq] at *
  exact ⟨trivial, e1.symm, e2.symm, e3.symm, e4.symm, e5.symm, e6.symm, e7.symm, e8.symm, e9.symm⟩

theorem facts1 {o d n m a x k h t c : Int} (hs : shapeI o = 1) (hI : isI ⟨o, d, n, m, a, x, k, h, t, c⟩ = true) : (n = 0 ∧ m = 0 ∧ a = 0 ∧ k = 0 ∧ h = 0 ∧ c = 0 ∧ 0 ≤ d ∧ d ≤ 31) ∧ (0 ≤ x ∧ x ≤ 65535 ∧ 0 ≤ t ∧ t ≤ 48 ∧ t.tmod 16 = 0) := by
  obtain ⟨h1, h2, h3⟩ := isI_of (s := 1) hI hs
  simp only [ownI, In.mk.injEq] at h1
  simp [pick, hasDb, hasNb, hasMb] at h1
  simp only [regsI, decide_eq_true_eq] at h2
  simp [numI, withinI, Bool.and_eq_true, decide_eq_true_eq] at h3
  grind

theorem facts2 {o d n m a x k h t c : Int} (hs : shapeI o = 2) (hI : isI ⟨o, d, n, m, a, x, k, h, t, c⟩ = true) : (m = 0 ∧ a = 0 ∧ k = 0 ∧ h = 0 ∧ c = 0 ∧ 0 ≤ d ∧ d ≤ 31 ∧ 0 ≤ n ∧ n ≤ 31) ∧ (0 ≤ x ∧ x ≤ 4095 ∧ 0 ≤ t ∧ t ≤ 12 ∧ t.tmod 12 = 0) := by
  obtain ⟨h1, h2, h3⟩ := isI_of (s := 2) hI hs
  simp only [ownI, In.mk.injEq] at h1
  simp [pick, hasDb, hasNb, hasMb] at h1
  simp only [regsI, decide_eq_true_eq] at h2
  simp [numI, withinI, Bool.and_eq_true, decide_eq_true_eq] at h3
  grind

theorem facts3 {o d n m a x k h t c : Int} (hs : shapeI o = 3) (hI : isI ⟨o, d, n, m, a, x, k, h, t, c⟩ = true) : (m = 0 ∧ a = 0 ∧ x = 0 ∧ h = 0 ∧ t = 0 ∧ c = 0 ∧ 0 ≤ d ∧ d ≤ 31 ∧ 0 ≤ n ∧ n ≤ 31) ∧ (isS k.toNat = true) := by
  obtain ⟨h1, h2, h3⟩ := isI_of (s := 3) hI hs
  simp only [ownI, In.mk.injEq] at h1
  simp [pick, hasDb, hasNb, hasMb] at h1
  simp only [regsI, decide_eq_true_eq] at h2
  simp [numI, withinI, Bool.and_eq_true, decide_eq_true_eq] at h3
  grind

theorem facts4 {o d n m a x k h t c : Int} (hs : shapeI o = 4) (hI : isI ⟨o, d, n, m, a, x, k, h, t, c⟩ = true) : (a = 0 ∧ x = 0 ∧ k = 0 ∧ c = 0 ∧ 0 ≤ d ∧ d ≤ 31 ∧ 0 ≤ n ∧ n ≤ 31 ∧ 0 ≤ m ∧ m ≤ 31) ∧ (0 ≤ h ∧ h ≤ 2 ∧ 0 ≤ t ∧ t ≤ 63) := by
  obtain ⟨h1, h2, h3⟩ := isI_of (s := 4) hI hs
  simp only [ownI, In.mk.injEq] at h1
  simp [pick, hasDb, hasNb, hasMb] at h1
  simp only [regsI, decide_eq_true_eq] at h2
  simp [numI, withinI, Bool.and_eq_true, decide_eq_true_eq] at h3
  grind

theorem facts5 {o d n m a x k h t c : Int} (hs : shapeI o = 5) (hI : isI ⟨o, d, n, m, a, x, k, h, t, c⟩ = true) : (a = 0 ∧ x = 0 ∧ k = 0 ∧ c = 0 ∧ 0 ≤ d ∧ d ≤ 31 ∧ 0 ≤ n ∧ n ≤ 31 ∧ 0 ≤ m ∧ m ≤ 31) ∧ (0 ≤ h ∧ h ≤ 3 ∧ 0 ≤ t ∧ t ≤ 63) := by
  obtain ⟨h1, h2, h3⟩ := isI_of (s := 5) hI hs
  simp only [ownI, In.mk.injEq] at h1
  simp [pick, hasDb, hasNb, hasMb] at h1
  simp only [regsI, decide_eq_true_eq] at h2
  simp [numI, withinI, Bool.and_eq_true, decide_eq_true_eq] at h3
  grind

theorem facts6 {o d n m a x k h t c : Int} (hs : shapeI o = 6) (hI : isI ⟨o, d, n, m, a, x, k, h, t, c⟩ = true) : (x = 0 ∧ k = 0 ∧ h = 0 ∧ t = 0 ∧ c = 0 ∧ 0 ≤ d ∧ d ≤ 31 ∧ 0 ≤ n ∧ n ≤ 31 ∧ 0 ≤ m ∧ m ≤ 31 ∧ 0 ≤ a ∧ a ≤ 31) ∧ (True) := by
  obtain ⟨h1, h2, h3⟩ := isI_of (s := 6) hI hs
  simp only [ownI, In.mk.injEq] at h1
  simp [pick, hasDb, hasNb, hasMb] at h1
  simp only [regsI, decide_eq_true_eq] at h2
  simp [numI, withinI, Bool.and_eq_true, decide_eq_true_eq] at h3
  grind

theorem facts7 {o d n m a x k h t c : Int} (hs : shapeI o = 7) (hI : isI ⟨o, d, n, m, a, x, k, h, t, c⟩ = true) : (m = 0 ∧ a = 0 ∧ k = 0 ∧ h = 0 ∧ t = 0 ∧ c = 0 ∧ 0 ≤ d ∧ d ≤ 31 ∧ 0 ≤ n ∧ n ≤ 31) ∧ (0 ≤ x ∧ x ≤ 32760 ∧ x.tmod 8 = 0) := by
  obtain ⟨h1, h2, h3⟩ := isI_of (s := 7) hI hs
  simp only [ownI, In.mk.injEq] at h1
  simp [pick, hasDb, hasNb, hasMb] at h1
  simp only [regsI, decide_eq_true_eq] at h2
  simp [numI, withinI, Bool.and_eq_true, decide_eq_true_eq] at h3
  grind

theorem facts8 {o d n m a x k h t c : Int} (hs : shapeI o = 8) (hI : isI ⟨o, d, n, m, a, x, k, h, t, c⟩ = true) : (m = 0 ∧ a = 0 ∧ k = 0 ∧ h = 0 ∧ t = 0 ∧ c = 0 ∧ 0 ≤ d ∧ d ≤ 31 ∧ 0 ≤ n ∧ n ≤ 31) ∧ (0 ≤ x ∧ x ≤ 4095) := by
  obtain ⟨h1, h2, h3⟩ := isI_of (s := 8) hI hs
  simp only [ownI, In.mk.injEq] at h1
  simp [pick, hasDb, hasNb, hasMb] at h1
  simp only [regsI, decide_eq_true_eq] at h2
  simp [numI, withinI, Bool.and_eq_true, decide_eq_true_eq] at h3
  grind

theorem facts9 {o d n m a x k h t c : Int} (hs : shapeI o = 9) (hI : isI ⟨o, d, n, m, a, x, k, h, t, c⟩ = true) : (n = 0 ∧ m = 0 ∧ a = 0 ∧ k = 0 ∧ h = 0 ∧ t = 0 ∧ c = 0 ∧ 0 ≤ d ∧ d ≤ 31) ∧ (-1048576 ≤ x ∧ x ≤ 1048572 ∧ x.tmod 4 = 0) := by
  obtain ⟨h1, h2, h3⟩ := isI_of (s := 9) hI hs
  simp only [ownI, In.mk.injEq] at h1
  simp [pick, hasDb, hasNb, hasMb] at h1
  simp only [regsI, decide_eq_true_eq] at h2
  simp [numI, withinI, Bool.and_eq_true, decide_eq_true_eq] at h3
  grind

theorem facts10 {o d n m a x k h t c : Int} (hs : shapeI o = 10) (hI : isI ⟨o, d, n, m, a, x, k, h, t, c⟩ = true) : (n = 0 ∧ m = 0 ∧ a = 0 ∧ k = 0 ∧ h = 0 ∧ t = 0 ∧ c = 0 ∧ 0 ≤ d ∧ d ≤ 31) ∧ (-1048576 ≤ x ∧ x ≤ 1048575) := by
  obtain ⟨h1, h2, h3⟩ := isI_of (s := 10) hI hs
  simp only [ownI, In.mk.injEq] at h1
  simp [pick, hasDb, hasNb, hasMb] at h1
  simp only [regsI, decide_eq_true_eq] at h2
  simp [numI, withinI, Bool.and_eq_true, decide_eq_true_eq] at h3
  grind

theorem facts11 {o d n m a x k h t c : Int} (hs : shapeI o = 11) (hI : isI ⟨o, d, n, m, a, x, k, h, t, c⟩ = true) : (d = 0 ∧ n = 0 ∧ m = 0 ∧ a = 0 ∧ k = 0 ∧ h = 0 ∧ t = 0 ∧ c = 0) ∧ (-134217728 ≤ x ∧ x ≤ 134217724 ∧ x.tmod 4 = 0) := by
  obtain ⟨h1, h2, h3⟩ := isI_of (s := 11) hI hs
  simp only [ownI, In.mk.injEq] at h1
  simp [pick, hasDb, hasNb, hasMb] at h1
  simp only [regsI, decide_eq_true_eq] at h2
  simp [numI, withinI, Bool.and_eq_true, decide_eq_true_eq] at h3
  grind

theorem facts12 {o d n m a x k h t c : Int} (hs : shapeI o = 12) (hI : isI ⟨o, d, n, m, a, x, k, h, t, c⟩ = true) : (d = 0 ∧ n = 0 ∧ m = 0 ∧ a = 0 ∧ k = 0 ∧ h = 0 ∧ t = 0) ∧ (-1048576 ≤ x ∧ x ≤ 1048572 ∧ x.tmod 4 = 0 ∧ 0 ≤ c ∧ c ≤ 13) := by
  obtain ⟨h1, h2, h3⟩ := isI_of (s := 12) hI hs
  simp only [ownI, In.mk.injEq] at h1
  simp [pick, hasDb, hasNb, hasMb] at h1
  simp only [regsI, decide_eq_true_eq] at h2
  simp [numI, withinI, Bool.and_eq_true, decide_eq_true_eq] at h3
  grind

theorem facts13 {o d n m a x k h t c : Int} (hs : shapeI o = 13) (hI : isI ⟨o, d, n, m, a, x, k, h, t, c⟩ = true) : (d = 0 ∧ m = 0 ∧ a = 0 ∧ x = 0 ∧ k = 0 ∧ h = 0 ∧ t = 0 ∧ c = 0 ∧ 0 ≤ n ∧ n ≤ 31) ∧ (True) := by
  obtain ⟨h1, h2, h3⟩ := isI_of (s := 13) hI hs
  simp only [ownI, In.mk.injEq] at h1
  simp [pick, hasDb, hasNb, hasMb] at h1
  simp only [regsI, decide_eq_true_eq] at h2
  simp [numI, withinI, Bool.and_eq_true, decide_eq_true_eq] at h3
  grind

theorem facts14 {o d n m a x k h t c : Int} (hs : shapeI o = 14) (hI : isI ⟨o, d, n, m, a, x, k, h, t, c⟩ = true) : (d = 0 ∧ n = 0 ∧ m = 0 ∧ a = 0 ∧ k = 0 ∧ h = 0 ∧ t = 0 ∧ c = 0) ∧ (0 ≤ x ∧ x ≤ 65535) := by
  obtain ⟨h1, h2, h3⟩ := isI_of (s := 14) hI hs
  simp only [ownI, In.mk.injEq] at h1
  simp [pick, hasDb, hasNb, hasMb] at h1
  simp only [regsI, decide_eq_true_eq] at h2
  simp [numI, withinI, Bool.and_eq_true, decide_eq_true_eq] at h3
  grind

theorem facts15 {o d n m a x k h t c : Int} (hs : shapeI o = 15) (hI : isI ⟨o, d, n, m, a, x, k, h, t, c⟩ = true) : (d = 0 ∧ n = 0 ∧ m = 0 ∧ a = 0 ∧ x = 0 ∧ k = 0 ∧ h = 0 ∧ t = 0 ∧ c = 0) ∧ (True) := by
  obtain ⟨h1, h2, h3⟩ := isI_of (s := 15) hI hs
  simp only [ownI, In.mk.injEq] at h1
  simp [pick, hasDb, hasNb, hasMb] at h1
  simp only [regsI, decide_eq_true_eq] at h2
  simp [numI, withinI, Bool.and_eq_true, decide_eq_true_eq] at h3
  grind

theorem facts16 {o d n m a x k h t c : Int} (hs : shapeI o = 16) (hI : isI ⟨o, d, n, m, a, x, k, h, t, c⟩ = true) : (a = 0 ∧ x = 0 ∧ k = 0 ∧ h = 0 ∧ t = 0 ∧ 0 ≤ d ∧ d ≤ 31 ∧ 0 ≤ n ∧ n ≤ 31 ∧ 0 ≤ m ∧ m ≤ 31) ∧ (0 ≤ c ∧ c ≤ 13) := by
  obtain ⟨h1, h2, h3⟩ := isI_of (s := 16) hI hs
  simp only [ownI, In.mk.injEq] at h1
  simp [pick, hasDb, hasNb, hasMb] at h1
  simp only [regsI, decide_eq_true_eq] at h2
  simp [numI, withinI, Bool.and_eq_true, decide_eq_true_eq] at h3
  grind
end Go.Proofs.YtdeigbdcipkaaaaGreatDoor
