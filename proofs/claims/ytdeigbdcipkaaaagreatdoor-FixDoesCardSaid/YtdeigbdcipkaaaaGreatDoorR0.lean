/- Plain facts on rotations, bit by bit; no Go in sight. -/
import Derived.Test.YtdeigbdcipkaaaaGreatDoorM0
namespace Go.Proofs.YtdeigbdcipkaaaaGreatDoor
set_option linter.unusedVariables false
set_option linter.unusedSimpArgs false
open Go.RowKit

def turnN (v b s : Nat) : Nat → Nat
  | 0 => 0
  | k + 1 => turnN v b s k ||| (v / 2 ^ k % 2) * 2 ^ ((k + s - b) % s)
/-- 'v' rotated right by b among s bits, bit by bit, its lowest i bits. -/
def rotN (v b s : Nat) : Nat → Nat
  | 0 => 0
  | i + 1 => rotN v b s i + if v.testBit ((i + b) % s) then 2 ^ i else 0

theorem modS (a s : Nat) (h : a < 2 * s) : a % s = if a < s then a else a - s := by
  by_cases c : a < s
  · rw [if_pos c, Nat.mod_eq_of_lt c]
  · rw [if_neg c, Nat.mod_eq_sub_mod (by omega), Nat.mod_eq_of_lt (by omega)]

theorem bit_mul (x m j : Nat) (hx : x ≤ 1) : (x * 2 ^ m).testBit j = (decide (x = 1) && decide (j = m)) := by
  have : x = 0 ∨ x = 1 := by omega
  rcases this with rfl | rfl
  · simp
  · rw [Nat.one_mul, Nat.testBit_two_pow]; simp [eq_comm]
theorem half_bit (v k : Nat) : v / 2 ^ k % 2 = if v.testBit k then 1 else 0 := by
  have := Nat.testBit_eq_decide_div_mod_eq (x := v) (i := k)
  by_cases h : v / 2 ^ k % 2 = 1
  · simp [this, h]
  · have : v.testBit k = false := by simp [this, h]
    simp [this]; omega

theorem turnN_bit (v b s : Nat) (hb : b < s) (k : Nat) (hk : k ≤ s) (j : Nat) :
    (turnN v b s k).testBit j = (decide (j < s) && (decide ((j + b) % s < k) && v.testBit ((j + b) % s))) := by
  induction k with
  | zero => simp [turnN]
  | succ k ih =>
    rw [turnN, Nat.testBit_or, ih (by omega), bit_mul _ _ _ (by omega), half_bit]
    by_cases hj : j < s
    · have e1 := modS (j + b) s (by omega)
      have e2 := modS (k + s - b) s (by omega)
      by_cases c : (j + b) % s = k
      · have : j = (k + s - b) % s := by rw [e1] at c; rw [e2]; split at c <;> split <;> omega
        simp only [c]
        cases hv : v.testBit k <;> simp [hj, this] <;> omega
      · have : ¬ j = (k + s - b) % s := by intro h; apply c; rw [e1]; rw [e2] at h; split at h <;> split <;> omega
        have e : ((j + b) % s < k + 1) = ((j + b) % s < k) := by simp only [eq_iff_iff]; omega
        simp [this, e]
    · have : ¬ j = (k + s - b) % s := by have := Nat.mod_lt (k + s - b) (show s > 0 by omega); omega
      simp [hj, this]

theorem rotN_lt (v b s i : Nat) : rotN v b s i < 2 ^ i := by
  induction i with
  | zero => simp [rotN]
  | succ i ih => rw [rotN, Nat.pow_succ]; split <;> omega

theorem rotN_bit (v b s : Nat) (i j : Nat) : (rotN v b s i).testBit j = (decide (j < i) && v.testBit ((j + b) % s)) := by
  induction i with
  | zero => simp [rotN]
  | succ i ih =>
    rw [rotN]
    have hl := rotN_lt v b s i
    have e : rotN v b s i + (if v.testBit ((i + b) % s) then 2 ^ i else 0) = rotN v b s i ||| (if v.testBit ((i + b) % s) then 2 ^ i else 0) := by
      split
      · rw [Nat.or_comm, nat_join i _ _ (by simp) hl, Nat.add_comm]
      · simp
    rw [e, Nat.testBit_or, ih]
    by_cases c : j = i
    · subst c
      cases v.testBit ((j + b) % s) <;> simp
    · have h2 : (if v.testBit ((i + b) % s) = true then 2 ^ i else 0).testBit j = false := by
        split
        · rw [Nat.testBit_two_pow]; simp; omega
        · simp
      rw [h2]
      have e : (j < i + 1) = (j < i) := by simp only [eq_iff_iff]; omega
      simp [e]

theorem turn_rot (v b s : Nat) (hb : b < s) : turnN v b s s = rotN v b s s := by
  apply Nat.eq_of_testBit_eq
  intro j
  rw [turnN_bit v b s hb s (Nat.le_refl _), rotN_bit]
  have := Nat.mod_lt (j + b) (show s > 0 by omega)
  simp [this]

theorem turnN_lt (v b s k : Nat) (hb : b < s) (hk : k ≤ s) : turnN v b s k < 2 ^ s := by
  apply Nat.lt_pow_two_of_testBit
  intro i hi
  rw [turnN_bit v b s hb k hk]
  simp; omega

theorem or_step (t x m : Nat) (ht : t < 18446744073709551616) (hx : x ≤ 1) (hm : m ≤ 63) :
    bits BinOp.or IntKind.u64 (t : Int) (IntKind.u64.wrap ((x : Int) * 2 ^ m)) = ((t ||| x * 2 ^ m : Nat) : Int) := by
  have hp : 2 ^ m ≤ 2 ^ 63 := Nat.pow_le_pow_right (by decide) hm
  have hq : x * 2 ^ m ≤ 1 * 2 ^ m := Nat.mul_le_mul_right _ hx
  have e : IntKind.u64.wrap ((x : Int) * 2 ^ m) = ((x * 2 ^ m : Nat) : Int) := by
    rw [IntKind.wrap_u64, Int.natCast_mul, pow_cast, Int.emod_eq_of_lt]
    · rw [← pow_cast, ← Int.natCast_mul]; omega
    · rw [← pow_cast, ← Int.natCast_mul]; omega
  rw [e, u64_or_nat _ _ ht (by omega)]
theorem and_bit (v k : Nat) (hv : v < 18446744073709551616) : bits BinOp.and IntKind.u64 ((v : Int) / 2 ^ k) 1 = ((v / 2 ^ k % 2 : Nat) : Int) := by
  have e : ((v : Int) / 2 ^ k) = ((v / 2 ^ k : Nat) : Int) := by rw [← pow_cast]; rfl
  have h : v / 2 ^ k ≤ v := Nat.div_le_self _ _
  have := u64_and_nat (v / 2 ^ k) 1 (by omega) (by decide)
  rw [nat_mask1] at this
  rw [e]; exact this

theorem rot_back (v b c s : Nat) (hb : b < s) (hc : c < s) :
    rotN (rotN v b s s) c s s = rotN v ((b + c) % s) s s := by
  apply Nat.eq_of_testBit_eq
  intro j
  rw [rotN_bit, rotN_bit, rotN_bit]
  have h1 := Nat.mod_lt (j + c) (show s > 0 by omega)
  simp only [h1, decide_true, Bool.true_and]
  rw [Nat.mod_add_mod, Nat.add_mod_mod]
  rw [show j + c + b = j + (b + c) from by omega]
theorem rot_zero (v s : Nat) (hv : v < 2 ^ s) : rotN v 0 s s = v := by
  apply Nat.eq_of_testBit_eq
  intro j
  rw [rotN_bit]
  by_cases h : j < s
  · simp [h, Nat.mod_eq_of_lt h]
  · have := Nat.testBit_lt_two_pow (x := v) (i := j) (Nat.lt_of_lt_of_le hv (Nat.pow_le_pow_right (by decide) (by omega)))
    simp [h, this]
end Go.Proofs.YtdeigbdcipkaaaaGreatDoor
