/- Two rows of ones are no mask. No Go in sight. -/
import Derived.Test.YtpneegmggoebhaaDoorK6
namespace Go.Proofs.YtpneegmggoebhaaDoor
set_option linter.unusedVariables false
set_option linter.unusedSimpArgs false
open Go.RowKit
theorem two_bit (o b j : Nat) (hob : o < b) : (2 ^ o - 1 + 2 ^ b).testBit j = (decide (j < o) || decide (j = b)) := by
  have hl : 2 ^ o - 1 < 2 ^ b := by have := Nat.pow_lt_pow_right (show 1 < 2 by decide) hob; have := Nat.two_pow_pos o; omega
  have := add_bit (2 ^ o - 1) b true hl j
  simp only [if_true] at this
  rw [this, Nat.testBit_two_pow_sub_one]
  by_cases c : j = b <;> simp [c]
theorem two_lt (o b : Nat) (hob : o < b) (hb : b < 63) : 2 ^ o - 1 + 2 ^ b < 18446744073709551616 := by
  have := Nat.pow_lt_pow_right (show 1 < 2 by decide) hob
  have : 2 ^ b ≤ 2 ^ 62 := Nat.pow_le_pow_right (by decide) (by omega)
  omega
theorem two_none (o b : Nat) (h2 : 2 ≤ o) (ho : o < 61) (hob : o < b) (hb : b < 63) (k r s : Nat) : ¬ IsPat (2 ^ o - 1 + 2 ^ b) k r s := by
  intro h
  have hp := h.pos
  have hr := h.turn
  have hk := h.less
  have hd := h.dvd
  have hb' := h.bit
  have bit : ∀ j, j < 64 → ((j < o ∨ j = b) ↔ (j + r) % s < k) := fun j hj => by
    have e := hb' j hj
    rw [two_bit o b j hob] at e
    by_cases c : j < o ∨ j = b
    · have : (decide (j < o) || decide (j = b)) = true := by simpa using c
      rw [this] at e
      have := of_decide_eq_true e.symm
      omega
    · have : (decide (j < o) || decide (j = b)) = false := by simpa using c
      rw [this] at e
      have := of_decide_eq_false e.symm
      omega
  have x0 := bit 0 (by omega)
  have x1 := bit 1 (by omega)
  have x63 := bit 63 (by omega)
  have xb := (bit b (by omega)).1 (.inr rfl)
  have xb1 := bit (b - 1) (by omega)
  have xb2 := bit (b + 1) (by omega)
  rw [Nat.zero_add, Nat.mod_eq_of_lt hr] at x0
  have r0 : r = 0 := by
    apply Classical.byContradiction
    intro hne
    have e : (63 + r) % s = r - 1 := by
      obtain ⟨q, hq⟩ := hd
      rw [show 63 + r = (r - 1) + s * q by omega, Nat.add_mul_mod_self_left, Nat.mod_eq_of_lt (by omega)]
    rw [e] at x63
    omega
  subst r0
  simp only [Nat.add_zero] at x1 xb xb1 xb2
  have b0 : b % s = 0 := by
    apply Classical.byContradiction
    intro hne
    have e : (b - 1) % s = b % s - 1 := by
      have h1 := Nat.div_add_mod b s
      have h3 := Nat.mod_lt b (show 0 < s by omega)
      rw [show b - 1 = s * (b / s) + (b % s - 1) by omega, Nat.mul_add_mod, Nat.mod_eq_of_lt (by omega)]
    rw [e] at xb1
    omega
  have e1 : (b + 1) % s = 1 := by rw [Nat.add_mod, b0, Nat.zero_add, Nat.mod_mod, Nat.mod_eq_of_lt (by omega)]
  have e2 : 1 % s = 1 := Nat.mod_eq_of_lt (by omega)
  rw [e1] at xb2
  rw [e2] at x1
  omega
theorem two_is (o b : Nat) (h2 : 2 ≤ o) (ho : o < 61) (hob : o < b) (hb : b < 63) : isS (2 ^ o - 1 + 2 ^ b) = false :=
  isS_none (two_lt o b hob hb) (two_none o b h2 ho hob hb)
theorem two_pc (o b : Nat) (hob : o < b) (n : Nat) : pcN (2 ^ o - 1 + 2 ^ b) n = min n o + if b < n then 1 else 0 := by
  induction n with
  | zero => simp [pcN]
  | succ n ih =>
    rw [pcN, ih, two_bit o b n hob]
    by_cases c : n < o
    · rw [if_neg (show ¬ b < n by omega), if_neg (show ¬ b < n + 1 by omega)]; simp [c]; omega
    · by_cases c2 : n = b
      · subst c2; rw [if_neg (show ¬ n < n by omega), if_pos (show n < n + 1 by omega)]; simp; omega
      · by_cases c3 : b < n
        · rw [if_pos c3, if_pos (show b < n + 1 by omega)]; simp [c, c2]; omega
        · rw [if_neg c3, if_neg (show ¬ b < n + 1 by omega)]; simp [c, c2]; omega
theorem two_ones (o b : Nat) (ho : o < 61) (hob : o < b) (hb : b < 63) : pcN (2 ^ o - 1 + 2 ^ b) 64 = o + 1 := by
  rw [two_pc o b hob, if_pos (by omega)]; omega
end Go.Proofs.YtpneegmggoebhaaDoor
