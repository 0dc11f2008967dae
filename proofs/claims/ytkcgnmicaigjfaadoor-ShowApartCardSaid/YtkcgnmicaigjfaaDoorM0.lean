/- Plain arithmetic on powers of two and on masks of ones; no Go in sight. -/
import Derived.WalkKit
import Derived.Lib.Hide
namespace Go.Proofs.YtkcgnmicaigjfaaDoor
set_option linter.unusedVariables false
set_option linter.unusedSimpArgs false
open Go.RowKit

theorem pow_pos' (k : Nat) : 1 ≤ (2 : Int) ^ k := by
  induction k with
  | zero => decide
  | succ k ih => rw [Int.pow_succ]; omega
theorem pow_mono' {a b : Nat} (h : a ≤ b) : (2 : Int) ^ a ≤ 2 ^ b := by
  obtain ⟨c, rfl⟩ := Nat.le.dest h
  rw [Int.pow_add]
  have h1 := pow_pos' a
  have h2 := pow_pos' c
  have := Int.mul_le_mul_of_nonneg_left h2 (show (0:Int) ≤ 2 ^ a by omega)
  omega
theorem pow_le (k m : Nat) (h : k ≤ m) (M : Int) (hm : (2 : Int) ^ m = M) : 1 ≤ (2 : Int) ^ k ∧ (2 : Int) ^ k ≤ M := ⟨pow_pos' k, hm ▸ pow_mono' h⟩
theorem pow32 (n : Int) (h : n ≤ 32) : 1 ≤ (2 : Int) ^ n.toNat ∧ (2 : Int) ^ n.toNat ≤ 4294967296 := pow_le _ 32 (by omega) _ (by decide)
theorem pow63 (n : Int) (h : n ≤ 63) : 1 ≤ (2 : Int) ^ n.toNat ∧ (2 : Int) ^ n.toNat ≤ 9223372036854775808 := pow_le _ 63 (by omega) _ (by decide)
theorem pow_cast (k : Nat) : ((2 ^ k : Nat) : Int) = (2 : Int) ^ k := by simp
theorem toNat_pow (k : Nat) : ((2 : Int) ^ k).toNat = 2 ^ k := by rw [← pow_cast]; exact Int.toNat_natCast _

theorem and_compl (v k m : Nat) (hk : k ≤ m) (hv : v < 2 ^ m) : v &&& (2 ^ m - 1 - (2 ^ k - 1)) = v / 2 ^ k * 2 ^ k := by
  apply Nat.eq_of_testBit_eq
  intro i
  have e : 2 ^ m - 1 - (2 ^ k - 1) = 2 ^ k * (2 ^ (m - k) - 1) := by
    have : 2 ^ m = 2 ^ k * 2 ^ (m - k) := by rw [← Nat.pow_add]; congr 1; omega
    rw [Nat.mul_sub_one, ← this]
    have := Nat.one_le_two_pow (n := k)
    omega
  rw [e, Nat.testBit_and, Nat.testBit_two_pow_mul, Nat.mul_comm, Nat.testBit_two_pow_mul, Nat.testBit_two_pow_sub_one, Nat.testBit_div_two_pow]
  by_cases h : i ≥ k
  · have : k + (i - k) = i := by omega
    have h2 : i - k + k = i := by omega
    by_cases h3 : i < m
    · simp [h, this, h2]; intro; omega
    · have : v.testBit i = false := Nat.testBit_lt_two_pow (Nat.lt_of_lt_of_le hv (Nat.pow_le_pow_right (by decide) (by omega)))
      simp [h, h2, this]
  · simp [h]

theorem andNot_ones_nat (v k : Nat) (h1 : v < 4294967296) (hk : k ≤ 32) :
    bits BinOp.andNot IntKind.u32 (v : Int) ((2 : Int) ^ k - 1) = ((v / 2 ^ k * 2 ^ k : Nat) : Int) := by
  have hp := pow_le k 32 hk 4294967296 (by decide)
  have e : ((2 : Int) ^ k - 1) = ((2 ^ k - 1 : Nat) : Int) := by
    have := Nat.one_le_two_pow (n := k)
    rw [Int.ofNat_sub this, pow_cast]; rfl
  have e2 : 2 ^ k ≤ 2 ^ 32 := Nat.pow_le_pow_right (by decide) hk
  rw [e, u32_andNot_nat _ _ h1 (by omega)]
  have := and_compl v k 32 hk (by omega)
  simp only [show (4294967295 : Nat) = 2 ^ 32 - 1 from rfl, this]

theorem andNot_ones (v n : Int) (h0 : 0 ≤ v) (h1 : v < 4294967296) (hn : 0 ≤ n) (hn' : n ≤ 32) :
    (bits BinOp.andNot IntKind.u32 v (2 ^ n.toNat - 1) != 0) = decide ((2 : Int) ^ n.toNat ≤ v) := by
  obtain ⟨k, rfl⟩ := Int.eq_ofNat_of_zero_le hn
  obtain ⟨v, rfl⟩ := Int.eq_ofNat_of_zero_le h0
  rw [Int.toNat_natCast, andNot_ones_nat v k (by omega) (by omega)]
  have h2 : (2 : Nat) ^ k ≥ 1 := Nat.one_le_two_pow
  rw [Bool.eq_iff_iff]
  simp only [bne_iff_ne, decide_eq_true_eq, ← pow_cast]
  constructor
  · intro h
    apply Classical.byContradiction
    intro h3
    apply h
    rw [Nat.div_eq_of_lt (by omega)]; simp
  · intro h h3
    have h4 : v / 2 ^ k ≥ 1 := (Nat.one_le_div_iff (by omega)).2 (by omega)
    have h5 : v / 2 ^ k * 2 ^ k ≥ 1 * 2 ^ k := Nat.mul_le_mul_right _ h4
    omega

theorem div_eq_one (v : Int) (k : Nat) (h : v < 2 ^ (k + 1)) : (v / 2 ^ k == 1) = decide ((2 : Int) ^ k ≤ v) := by
  have hp := pow_pos' k
  rw [Int.pow_succ] at h
  rw [Bool.eq_iff_iff]
  simp only [beq_iff_eq, decide_eq_true_eq]
  constructor
  · intro e
    have := Int.ediv_mul_le v (show (2:Int)^k ≠ 0 by omega)
    rw [e] at this; omega
  · intro e
    have h1 : (1:Int) ≤ v / 2 ^ k := (Int.le_ediv_iff_mul_le (by omega)).2 (by omega)
    have h2 : v / 2 ^ k < 2 := (Int.ediv_lt_iff_lt_mul (by omega)).2 (by omega)
    omega

theorem wrap_ones (n : Int) (h : n ≤ 63) : IntKind.u64.wrap (IntKind.u64.wrap (2 ^ n.toNat) - 1) = 2 ^ n.toNat - 1 := by
  have := pow63 n h
  simp only [IntKind.wrap_u64]; omega
theorem and_ones64 (v n : Int) (h0 : 0 ≤ v) (h1 : v < 18446744073709551616) (hn : 0 ≤ n) (h : n ≤ 63) :
    bits BinOp.and IntKind.u64 v (2 ^ n.toNat - 1) = v % 2 ^ n.toNat := by
  have hp := pow63 n h
  obtain ⟨k, rfl⟩ := Int.eq_ofNat_of_zero_le hn
  obtain ⟨v, rfl⟩ := Int.eq_ofNat_of_zero_le h0
  rw [Int.toNat_natCast] at hp ⊢
  have e : ((2 : Int) ^ k - 1) = ((2 ^ k - 1 : Nat) : Int) := by
    have := Nat.one_le_two_pow (n := k)
    rw [Int.ofNat_sub this, pow_cast]; rfl
  have e2 : 2 ^ k ≤ 2 ^ 63 := Nat.pow_le_pow_right (by decide) (by omega)
  rw [e, u64_and_nat _ _ (by omega) (by omega), Nat.and_two_pow_sub_one_eq_mod, ← pow_cast]; rfl
theorem and_ones32 (v n : Int) (h0 : 0 ≤ v) (h1 : v < 4294967296) (hn : 0 ≤ n) (h : n ≤ 32) :
    bits BinOp.and IntKind.u32 v (2 ^ n.toNat - 1) = v % 2 ^ n.toNat := by
  have hp := pow32 n h
  obtain ⟨k, rfl⟩ := Int.eq_ofNat_of_zero_le hn
  obtain ⟨v, rfl⟩ := Int.eq_ofNat_of_zero_le h0
  rw [Int.toNat_natCast] at hp ⊢
  have e : ((2 : Int) ^ k - 1) = ((2 ^ k - 1 : Nat) : Int) := by
    have := Nat.one_le_two_pow (n := k)
    rw [Int.ofNat_sub this, pow_cast]; rfl
  have e2 : 2 ^ k ≤ 2 ^ 32 := Nat.pow_le_pow_right (by decide) (by omega)
  rw [e, u32_and_nat _ _ (by omega) (by omega), Nat.and_two_pow_sub_one_eq_mod, ← pow_cast]; rfl
end Go.Proofs.YtkcgnmicaigjfaaDoor
