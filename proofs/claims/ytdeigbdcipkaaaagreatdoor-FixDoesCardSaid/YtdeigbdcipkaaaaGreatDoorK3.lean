/- Plain facts on turns; no Go in sight. -/
import Derived.Test.YtdeigbdcipkaaaaGreatDoorB11
namespace Go.Proofs.YtdeigbdcipkaaaaGreatDoor
set_option linter.unusedVariables false
set_option linter.unusedSimpArgs false
open Go.RowKit

theorem ctz_bits (x : Nat) (hx : x < 18446744073709551616) (h0 : x ≠ 0) : (∀ j, j < Lib.ctz 64 x → x.testBit j = false) ∧ x.testBit (Lib.ctz 64 x) = true := by
  obtain ⟨m, hm, -⟩ := Lib.ctzFrom_spec 64 x (by omega) hx
  have e : Lib.ctz 64 x = Lib.ctzFrom 64 x := by simp [Lib.ctz, h0]
  rw [← e] at hm
  generalize Lib.ctz 64 x = k at hm
  subst hm
  constructor
  · intro j hj
    rw [Nat.testBit_two_pow_mul]; simp; omega
  · rw [Nat.testBit_two_pow_mul]; simp
theorem pcN_mono (v n m : Nat) (h : n ≤ m) : pcN v n ≤ pcN v m := by
  induction m with
  | zero => rw [show n = 0 by omega]; exact Nat.le_refl _
  | succ m ih =>
    by_cases c : n = m + 1
    · rw [c]; exact Nat.le_refl _
    · have := ih (by omega); rw [pcN]; omega
theorem pcN_all (v n : Nat) (h : ∀ j, j < n → v.testBit j = true) : pcN v n = n := by
  induction n with
  | zero => rfl
  | succ n ih => rw [pcN, ih (fun j hj => h j (by omega)), h n (by omega)]; simp
theorem compl_bit (x j : Nat) (hx : x < 18446744073709551616) (hj : j < 64) : (18446744073709551615 - x).testBit j = !x.testBit j := by
  have := Nat.testBit_two_pow_sub_succ (x := x) (n := 64) hx j
  rw [show 2 ^ 64 - (x + 1) = 18446744073709551615 - x from by omega] at this
  rw [this]; simp [hj]
theorem ctz_compl_le (x : Nat) (hx : x < 18446744073709551616) : Lib.ctz 64 (18446744073709551615 - x) ≤ pcN x 64 := by
  have hl := ctz_le (18446744073709551615 - x) (by omega)
  have ha := pcN_all x (Lib.ctz 64 (18446744073709551615 - x)) (by
    intro j hj
    by_cases h0 : 18446744073709551615 - x = 0
    · have := compl_bit x j hx (by omega)
      rw [h0] at this; simpa using this
    · have h1 := (ctz_bits (18446744073709551615 - x) (by omega) h0).1 j hj
      rw [compl_bit x j hx (by omega)] at h1; simpa using h1)
  have := pcN_mono x _ 64 hl
  omega
theorem turnS_lt (x s : Nat) (hx : x < 18446744073709551616) (hs : 1 ≤ s) (ho : pcN x 64 < s) : ∃ r : Nat, r < s ∧ turnS x s = r := by
  unfold turnS
  by_cases c : x % 2 = 0
  · rw [if_pos c]
    have h1 := Int.emod_nonneg (((s : Int) - (Lib.ctz 64 x : Nat) % s)) (show (s : Int) ≠ 0 by omega)
    have h2 := Int.emod_lt_of_pos (((s : Int) - (Lib.ctz 64 x : Nat) % s)) (show (0 : Int) < s by omega)
    exact ⟨(((s : Int) - (Lib.ctz 64 x : Nat) % s) % s).toNat, by omega, by omega⟩
  · rw [if_neg c]
    have := ctz_compl_le x hx
    exact ⟨pcN x 64 - Lib.ctz 64 (18446744073709551615 - x), by omega, by omega⟩
end Go.Proofs.YtdeigbdcipkaaaaGreatDoor
