/- Plain facts on masks: numbers of 64 bits that are some bits again and again; no Go in sight. -/
import Derived.Test.YtdeigbdcipkaaaaGreatDoorR0
namespace Go.Proofs.YtdeigbdcipkaaaaGreatDoor
set_option linter.unusedVariables false
set_option linter.unusedSimpArgs false
open Go.RowKit

/-- The lowest i bits of what the s bits of v make, again and again. -/
def agN (v s : Nat) : Nat → Nat
  | 0 => 0
  | i + 1 => agN v s i + if v.testBit (i % s) then 2 ^ i else 0
theorem agN_lt (v s i : Nat) : agN v s i < 2 ^ i := by
  induction i with
  | zero => simp [agN]
  | succ i ih => rw [agN, Nat.pow_succ]; split <;> omega
theorem add_bit (a i : Nat) (b : Bool) (ha : a < 2 ^ i) (j : Nat) : (a + if b then 2 ^ i else 0).testBit j = (if j = i then b else a.testBit j) := by
  have e : a + (if b then 2 ^ i else 0) = a ||| (if b then 2 ^ i else 0) := by
    cases b
    · simp
    · simp only [if_true]; rw [Nat.or_comm, nat_join i _ _ (by simp) ha, Nat.add_comm]
  rw [e, Nat.testBit_or]
  by_cases c : j = i
  · subst c
    rw [Nat.testBit_lt_two_pow ha]
    cases b <;> simp
  · rw [if_neg c]
    cases b
    · simp
    · simp only [if_true]; rw [Nat.testBit_two_pow]; simp; omega
theorem agN_bit (v s i j : Nat) : (agN v s i).testBit j = (decide (j < i) && v.testBit (j % s)) := by
  induction i with
  | zero => simp [agN]
  | succ i ih =>
    rw [agN, add_bit _ _ _ (agN_lt v s i)]
    by_cases c : j = i
    · subst c; simp
    · rw [if_neg c, ih]
      have e : (j < i + 1) = (j < i) := by simp only [eq_iff_iff]; omega
      simp [e]

/-- v has the same bit at j and at j + s, wherever both are among 64. -/
def perB (v s : Nat) : Prop := ∀ j, j < 64 → v.testBit j = v.testBit (j % s)
theorem agN_per (v s : Nat) (hv : v < 2 ^ 64) (hs : 0 < s) (hs2 : s ≤ 64) : agN (v % 2 ^ s) s 64 = v ↔ perB v s := by
  constructor
  · intro h j hj
    have h1 := agN_bit (v % 2 ^ s) s 64 j
    rw [h] at h1
    rw [h1, Nat.testBit_mod_two_pow]
    simp [hj, Nat.mod_lt j hs]
  · intro h
    apply Nat.eq_of_testBit_eq
    intro j
    rw [agN_bit, Nat.testBit_mod_two_pow]
    by_cases hj : j < 64
    · rw [h j hj]; simp [hj, Nat.mod_lt j hs]
    · have := Nat.testBit_lt_two_pow (x := v) (i := j) (Nat.lt_of_lt_of_le hv (Nat.pow_le_pow_right (by decide) (by omega)))
      simp [hj, this]

/-- How many of the lowest n bits of v are 1. -/
def pcN (v : Nat) : Nat → Nat
  | 0 => 0
  | i + 1 => pcN v i + if v.testBit i then 1 else 0
theorem pcN_le (v n : Nat) : pcN v n ≤ n := by
  induction n with
  | zero => simp [pcN]
  | succ n ih => rw [pcN]; split <;> omega
theorem pcN_congr (v w n : Nat) (h : ∀ j, j < n → v.testBit j = w.testBit j) : pcN v n = pcN w n := by
  induction n with
  | zero => rfl
  | succ n ih => rw [pcN, pcN, ih (fun j hj => h j (by omega)), h n (by omega)]
theorem pcN_more (v n m : Nat) (hv : v < 2 ^ n) (h : n ≤ m) : pcN v m = pcN v n := by
  induction m with
  | zero => rw [show n = 0 by omega]
  | succ m ih =>
    by_cases c : n = m + 1
    · rw [c]
    · rw [pcN, ih (by omega), Nat.testBit_lt_two_pow (Nat.lt_of_lt_of_le hv (Nat.pow_le_pow_right (by decide) (by omega)))]; simp
theorem pcN_not (v w n : Nat) (h : ∀ j, j < n → v.testBit j = !w.testBit j) : pcN v n + pcN w n = n := by
  induction n with
  | zero => rfl
  | succ n ih =>
    have := ih (fun j hj => h j (by omega))
    have h2 := h n (by omega)
    rw [pcN, pcN, h2]
    cases w.testBit n <;> simp <;> omega

/-- The bits of k ones in a row among s, rotated right by r, again and again. -/
structure IsPat (v k r s : Nat) : Prop where
  size : s = 2 ∨ s = 4 ∨ s = 8 ∨ s = 16 ∨ s = 32 ∨ s = 64
  one : 1 ≤ k
  less : k < s
  turn : r < s
  lt : v < 2 ^ 64
  bit : ∀ j, j < 64 → v.testBit j = decide ((j + r) % s < k)
theorem IsPat.pos {v k r s : Nat} (h : IsPat v k r s) : 2 ≤ s ∧ s ≤ 64 := by have := h.size; omega
theorem IsPat.dvd {v k r s : Nat} (h : IsPat v k r s) : s ∣ 64 := by
  rcases h.size with e | e | e | e | e | e <;> subst e <;> decide
theorem IsPat.per {v k r s : Nat} (h : IsPat v k r s) : perB v s := by
  intro j hj
  have hp := h.pos
  rw [h.bit j hj, h.bit (j % s) (by have := Nat.mod_lt j (show 0 < s by omega); omega), Nat.mod_add_mod]
/-- No pattern is one of a smaller size. -/
theorem IsPat.least {v k r s : Nat} (h : IsPat v k r s) (t : Nat) (ht : t = 2 ∨ t = 4 ∨ t = 8 ∨ t = 16 ∨ t = 32) (hts : t < s) : ¬ perB v t := by
  intro hper
  have hp := h.pos
  have hdvd : t ∣ s := by
    rcases ht with e | e | e | e | e <;> subst e <;> rcases h.size with e | e | e | e | e | e <;> subst e <;> first | decide | omega
  -- a place in the row, and one t further on
  have key : ∀ p, p < s → p + t < s → (p < k ↔ p + t < k) := by
    intro p hp1 hp2
    have hr := h.turn
    -- j with (j + r) % s = p
    have e1 : ((p + s - r) % s + r) % s = p := by
      rw [Nat.mod_add_mod, show p + s - r + r = p + s from by omega, Nat.add_mod_right, Nat.mod_eq_of_lt hp1]
    have e2 : ((p + t + s - r) % s + r) % s = p + t := by
      rw [Nat.mod_add_mod, show p + t + s - r + r = p + t + s from by omega, Nat.add_mod_right, Nat.mod_eq_of_lt hp2]
    have l1 := Nat.mod_lt (p + s - r) (show 0 < s by omega)
    have l2 := Nat.mod_lt (p + t + s - r) (show 0 < s by omega)
    have b1 := h.bit ((p + s - r) % s) (by omega)
    have b2 := h.bit ((p + t + s - r) % s) (by omega)
    rw [e1] at b1
    rw [e2] at b2
    have m1 := hper ((p + s - r) % s) (by omega)
    have m2 := hper ((p + t + s - r) % s) (by omega)
    rw [Nat.mod_mod_of_dvd _ hdvd] at m1 m2
    have e3 : (p + t + s - r) % t = (p + s - r) % t := by
      rw [show p + t + s - r = p + s - r + t from by omega, Nat.add_mod_right]
    rw [e3] at m2
    rw [← m1] at m2
    rw [b1, b2] at m2
    have := decide_eq_decide.1 m2
    exact this.symm
  have hk := h.one
  have hks := h.less
  by_cases c : k - 1 + t < s
  · have := key (k - 1) (by omega) c
    omega
  · have := key (s - 1 - t) (by omega) (by omega)
    omega
/-- How many ones a pattern's own bits have. -/
theorem pc_row (k r s : Nat) (hk : k ≤ s) (hr : r < s) (v : Nat) (h : ∀ j, j < s → v.testBit j = decide ((j + r) % s < k)) : pcN v s = k := by
  -- by r ones from the far end, the rest from the near one
  have step : ∀ n, n ≤ s → pcN v n = (if n + r ≤ s then min k (n + r) - min k r else (k - min k r) + min k (n + r - s)) := by
    intro n
    induction n with
    | zero => intro _; simp [pcN]; omega
    | succ n ih =>
      intro hn
      rw [pcN, ih (by omega), h n (by omega), modS (n + r) s (by omega)]
      by_cases c1 : n + r < s
      · rw [if_pos c1, if_pos (show n + r ≤ s by omega), if_pos (show n + 1 + r ≤ s by omega)]
        by_cases c2 : n + r < k
        · simp [c2]; omega
        · simp [c2]; omega
      · rw [if_neg c1, if_neg (show ¬ n + 1 + r ≤ s by omega)]
        by_cases c3 : n + r = s
        · rw [if_pos (by omega)]
          by_cases c2 : n + r - s < k
          · simp [c2]; omega
          · simp [c2]; omega
        · rw [if_neg (by omega)]
          by_cases c2 : n + r - s < k
          · simp [c2]; omega
          · simp [c2]; omega
  rw [step s (Nat.le_refl _)]
  by_cases c : r = 0
  · subst c; rw [if_pos (by omega)]; omega
  · rw [if_neg (by omega)]; omega
end Go.Proofs.YtdeigbdcipkaaaaGreatDoor
