/- Plain facts on rotations, bit by bit; no Go in sight. Plain facts on masks: numbers of 64 bits that are some bits again and again; no Go in sight. Plain facts on the count of ones, byte by byte; no Go in sight. -/
import Derived.Test.YtkcgnmicaigjfaaDoorM0
namespace Go.Proofs.YtkcgnmicaigjfaaDoor
set_option linter.unusedVariables false
set_option linter.unusedSimpArgs false
open Go.RowKit

def turnN (v b s : Nat) : Nat → Nat
  | 0 => 0
  | k + 1 => turnN v b s k ||| (v / 2 ^ k % 2) * 2 ^ ((k + s - b) % s)
/-- 'v' rotated right by b among s bits, bit by bit, its lowest i bits. -/
def rotN (v b s : Nat) : Nat → Nat
  | 0 => 0
  | i + 1 => rotN v b s i + if v.testBit ((i + b) % s) then 2 ^ i else 0

theorem modS (a s : Nat) (h : a < 2 * s) : a % s = if a < s then a else a - s := by
  by_cases c : a < s
  · rw [if_pos c, Nat.mod_eq_of_lt c]
  · rw [if_neg c, Nat.mod_eq_sub_mod (by omega), Nat.mod_eq_of_lt (by omega)]

theorem bit_mul (x m j : Nat) (hx : x ≤ 1) : (x * 2 ^ m).testBit j = (decide (x = 1) && decide (j = m)) := by
  have : x = 0 ∨ x = 1 := by omega
  rcases this with rfl | rfl
  · simp
  · rw [Nat.one_mul, Nat.testBit_two_pow]; simp [eq_comm]
theorem half_bit (v k : Nat) : v / 2 ^ k % 2 = if v.testBit k then 1 else 0 := by
  have := Nat.testBit_eq_decide_div_mod_eq (x := v) (i := k)
  by_cases h : v / 2 ^ k % 2 = 1
  · simp [this, h]
  · have : v.testBit k = false := by simp [this, h]
    simp [this]; omega

theorem turnN_bit (v b s : Nat) (hb : b < s) (k : Nat) (hk : k ≤ s) (j : Nat) :
    (turnN v b s k).testBit j = (decide (j < s) && (decide ((j + b) % s < k) && v.testBit ((j + b) % s))) := by
  induction k with
  | zero => simp [turnN]
  | succ k ih =>
    rw [turnN, Nat.testBit_or, ih (by omega), bit_mul _ _ _ (by omega), half_bit]
    by_cases hj : j < s
    · have e1 := modS (j + b) s (by omega)
      have e2 := modS (k + s - b) s (by omega)
      by_cases c : (j + b) % s = k
      · have : j = (k + s - b) % s := by rw [e1] at c; rw [e2]; split at c <;> split <;> omega
        simp only [c]
        cases hv : v.testBit k <;> simp [hj, this] <;> omega
      · have : ¬ j = (k + s - b) % s := by intro h; apply c; rw [e1]; rw [e2] at h; split at h <;> split <;> omega
        have e : ((j + b) % s < k + 1) = ((j + b) % s < k) := by simp only [eq_iff_iff]; omega
        simp [this, e]
    · have : ¬ j = (k + s - b) % s := by have := Nat.mod_lt (k + s - b) (show s > 0 by omega); omega
      simp [hj, this]

theorem rotN_lt (v b s i : Nat) : rotN v b s i < 2 ^ i := by
  induction i with
  | zero => simp [rotN]
  | succ i ih => rw [rotN, Nat.pow_succ]; split <;> omega

theorem rotN_bit (v b s : Nat) (i j : Nat) : (rotN v b s i).testBit j = (decide (j < i) && v.testBit ((j + b) % s)) := by
  induction i with
  | zero => simp [rotN]
  | succ i ih =>
    rw [rotN]
    have hl := rotN_lt v b s i
    have e : rotN v b s i + (if v.testBit ((i + b) % s) then 2 ^ i else 0) = rotN v b s i ||| (if v.testBit ((i + b) % s) then 2 ^ i else 0) := by
      split
      · rw [Nat.or_comm, nat_join i _ _ (by simp) hl, Nat.add_comm]
      · simp
    rw [e, Nat.testBit_or, ih]
    by_cases c : j = i
    · subst c
      cases v.testBit ((j + b) % s) <;> simp
    · have h2 : (if v.testBit ((i + b) % s) = true then 2 ^ i else 0).testBit j = false := by
        split
        · rw [Nat.testBit_two_pow]; simp; omega
        · simp
      rw [h2]
      have e : (j < i + 1) = (j < i) := by simp only [eq_iff_iff]; omega
      simp [e]

theorem turn_rot (v b s : Nat) (hb : b < s) : turnN v b s s = rotN v b s s := by
  apply Nat.eq_of_testBit_eq
  intro j
  rw [turnN_bit v b s hb s (Nat.le_refl _), rotN_bit]
  have := Nat.mod_lt (j + b) (show s > 0 by omega)
  simp [this]

theorem turnN_lt (v b s k : Nat) (hb : b < s) (hk : k ≤ s) : turnN v b s k < 2 ^ s := by
  apply Nat.lt_pow_two_of_testBit
  intro i hi
  rw [turnN_bit v b s hb k hk]
  simp; omega

theorem or_step (t x m : Nat) (ht : t < 18446744073709551616) (hx : x ≤ 1) (hm : m ≤ 63) :
    bits BinOp.or IntKind.u64 (t : Int) (IntKind.u64.wrap ((x : Int) * 2 ^ m)) = ((t ||| x * 2 ^ m : Nat) : Int) := by
  have hp : 2 ^ m ≤ 2 ^ 63 := Nat.pow_le_pow_right (by decide) hm
  have hq : x * 2 ^ m ≤ 1 * 2 ^ m := Nat.mul_le_mul_right _ hx
  have e : IntKind.u64.wrap ((x : Int) * 2 ^ m) = ((x * 2 ^ m : Nat) : Int) := by
    rw [IntKind.wrap_u64, Int.natCast_mul, pow_cast, Int.emod_eq_of_lt]
    · rw [← pow_cast, ← Int.natCast_mul]; omega
    · rw [← pow_cast, ← Int.natCast_mul]; omega
  rw [e, u64_or_nat _ _ ht (by omega)]
theorem and_bit (v k : Nat) (hv : v < 18446744073709551616) : bits BinOp.and IntKind.u64 ((v : Int) / 2 ^ k) 1 = ((v / 2 ^ k % 2 : Nat) : Int) := by
  have e : ((v : Int) / 2 ^ k) = ((v / 2 ^ k : Nat) : Int) := by rw [← pow_cast]; rfl
  have h : v / 2 ^ k ≤ v := Nat.div_le_self _ _
  have := u64_and_nat (v / 2 ^ k) 1 (by omega) (by decide)
  rw [nat_mask1] at this
  rw [e]; exact this

theorem rot_back (v b c s : Nat) (hb : b < s) (hc : c < s) :
    rotN (rotN v b s s) c s s = rotN v ((b + c) % s) s s := by
  apply Nat.eq_of_testBit_eq
  intro j
  rw [rotN_bit, rotN_bit, rotN_bit]
  have h1 := Nat.mod_lt (j + c) (show s > 0 by omega)
  simp only [h1, decide_true, Bool.true_and]
  rw [Nat.mod_add_mod, Nat.add_mod_mod]
  rw [show j + c + b = j + (b + c) from by omega]
theorem rot_zero (v s : Nat) (hv : v < 2 ^ s) : rotN v 0 s s = v := by
  apply Nat.eq_of_testBit_eq
  intro j
  rw [rotN_bit]
  by_cases h : j < s
  · simp [h, Nat.mod_eq_of_lt h]
  · have := Nat.testBit_lt_two_pow (x := v) (i := j) (Nat.lt_of_lt_of_le hv (Nat.pow_le_pow_right (by decide) (by omega)))
    simp [h, this]

/-- The lowest i bits of what the s bits of v make, again and again. -/
def agN (v s : Nat) : Nat → Nat
  | 0 => 0
  | i + 1 => agN v s i + if v.testBit (i % s) then 2 ^ i else 0
theorem agN_lt (v s i : Nat) : agN v s i < 2 ^ i := by
  induction i with
  | zero => simp [agN]
  | succ i ih => rw [agN, Nat.pow_succ]; split <;> omega
theorem add_bit (a i : Nat) (b : Bool) (ha : a < 2 ^ i) (j : Nat) : (a + if b then 2 ^ i else 0).testBit j = (if j = i then b else a.testBit j) := by
  have e : a + (if b then 2 ^ i else 0) = a ||| (if b then 2 ^ i else 0) := by
    cases b
    · simp
    · simp only [if_true]; rw [Nat.or_comm, nat_join i _ _ (by simp) ha, Nat.add_comm]
  rw [e, Nat.testBit_or]
  by_cases c : j = i
  · subst c
    rw [Nat.testBit_lt_two_pow ha]
    cases b <;> simp
  · rw [if_neg c]
    cases b
    · simp
    · simp only [if_true]; rw [Nat.testBit_two_pow]; simp; omega
theorem agN_bit (v s i j : Nat) : (agN v s i).testBit j = (decide (j < i) && v.testBit (j % s)) := by
  induction i with
  | zero => simp [agN]
  | succ i ih =>
    rw [agN, add_bit _ _ _ (agN_lt v s i)]
    by_cases c : j = i
    · subst c; simp
    · rw [if_neg c, ih]
      have e : (j < i + 1) = (j < i) := by simp only [eq_iff_iff]; omega
      simp [e]

/-- v has the same bit at j and at j + s, wherever both are among 64. -/
def perB (v s : Nat) : Prop := ∀ j, j < 64 → v.testBit j = v.testBit (j % s)
theorem agN_per (v s : Nat) (hv : v < 2 ^ 64) (hs : 0 < s) (hs2 : s ≤ 64) : agN (v % 2 ^ s) s 64 = v ↔ perB v s := by
  constructor
  · intro h j hj
    have h1 := agN_bit (v % 2 ^ s) s 64 j
    rw [h] at h1
    rw [h1, Nat.testBit_mod_two_pow]
    simp [hj, Nat.mod_lt j hs]
  · intro h
    apply Nat.eq_of_testBit_eq
    intro j
    rw [agN_bit, Nat.testBit_mod_two_pow]
    by_cases hj : j < 64
    · rw [h j hj]; simp [hj, Nat.mod_lt j hs]
    · have := Nat.testBit_lt_two_pow (x := v) (i := j) (Nat.lt_of_lt_of_le hv (Nat.pow_le_pow_right (by decide) (by omega)))
      simp [hj, this]

/-- How many of the lowest n bits of v are 1. -/
def pcN (v : Nat) : Nat → Nat
  | 0 => 0
  | i + 1 => pcN v i + if v.testBit i then 1 else 0
theorem pcN_le (v n : Nat) : pcN v n ≤ n := by
  induction n with
  | zero => simp [pcN]
  | succ n ih => rw [pcN]; split <;> omega
theorem pcN_congr (v w n : Nat) (h : ∀ j, j < n → v.testBit j = w.testBit j) : pcN v n = pcN w n := by
  induction n with
  | zero => rfl
  | succ n ih => rw [pcN, pcN, ih (fun j hj => h j (by omega)), h n (by omega)]
theorem pcN_more (v n m : Nat) (hv : v < 2 ^ n) (h : n ≤ m) : pcN v m = pcN v n := by
  induction m with
  | zero => rw [show n = 0 by omega]
  | succ m ih =>
    by_cases c : n = m + 1
    · rw [c]
    · rw [pcN, ih (by omega), Nat.testBit_lt_two_pow (Nat.lt_of_lt_of_le hv (Nat.pow_le_pow_right (by decide) (by omega)))]; simp
theorem pcN_not (v w n : Nat) (h : ∀ j, j < n → v.testBit j = !w.testBit j) : pcN v n + pcN w n = n := by
  induction n with
  | zero => rfl
  | succ n ih =>
    have := ih (fun j hj => h j (by omega))
    have h2 := h n (by omega)
    rw [pcN, pcN, h2]
    cases w.testBit n <;> simp <;> omega

/-- The bits of k ones in a row among s, rotated right by r, again and again. -/
structure IsPat (v k r s : Nat) : Prop where
  size : s = 2 ∨ s = 4 ∨ s = 8 ∨ s = 16 ∨ s = 32 ∨ s = 64
  one : 1 ≤ k
  less : k < s
  turn : r < s
  lt : v < 2 ^ 64
  bit : ∀ j, j < 64 → v.testBit j = decide ((j + r) % s < k)
theorem IsPat.pos {v k r s : Nat} (h : IsPat v k r s) : 2 ≤ s ∧ s ≤ 64 := by have := h.size; omega
theorem IsPat.dvd {v k r s : Nat} (h : IsPat v k r s) : s ∣ 64 := by
  rcases h.size with e | e | e | e | e | e <;> subst e <;> decide
theorem IsPat.per {v k r s : Nat} (h : IsPat v k r s) : perB v s := by
  intro j hj
  have hp := h.pos
  rw [h.bit j hj, h.bit (j % s) (by have := Nat.mod_lt j (show 0 < s by omega); omega), Nat.mod_add_mod]
/-- No pattern is one of a smaller size. -/
theorem IsPat.least {v k r s : Nat} (h : IsPat v k r s) (t : Nat) (ht : t = 2 ∨ t = 4 ∨ t = 8 ∨ t = 16 ∨ t = 32) (hts : t < s) : ¬ perB v t := by
  intro hper
  have hp := h.pos
  have hdvd : t ∣ s := by
    rcases ht with e | e | e | e | e <;> subst e <;> rcases h.size with e | e | e | e | e | e <;> subst e <;> first | decide | omega
  -- a place in the row, and one t further on
  have key : ∀ p, p < s → p + t < s → (p < k ↔ p + t < k) := by
    intro p hp1 hp2
    have hr := h.turn
    -- j with (j + r) % s = p
    have e1 : ((p + s - r) % s + r) % s = p := by
      rw [Nat.mod_add_mod, show p + s - r + r = p + s from by omega, Nat.add_mod_right, Nat.mod_eq_of_lt hp1]
    have e2 : ((p + t + s - r) % s + r) % s = p + t := by
      rw [Nat.mod_add_mod, show p + t + s - r + r = p + t + s from by omega, Nat.add_mod_right, Nat.mod_eq_of_lt hp2]
    have l1 := Nat.mod_lt (p + s - r) (show 0 < s by omega)
    have l2 := Nat.mod_lt (p + t + s - r) (show 0 < s by omega)
    have b1 := h.bit ((p + s - r) % s) (by omega)
    have b2 := h.bit ((p + t + s - r) % s) (by omega)
    rw [e1] at b1
    rw [e2] at b2
    have m1 := hper ((p + s - r) % s) (by omega)
    have m2 := hper ((p + t + s - r) % s) (by omega)
    rw [Nat.mod_mod_of_dvd _ hdvd] at m1 m2
    have e3 : (p + t + s - r) % t = (p + s - r) % t := by
      rw [show p + t + s - r = p + s - r + t from by omega, Nat.add_mod_right]
    rw [e3] at m2
    rw [← m1] at m2
    rw [b1, b2] at m2
    have := decide_eq_decide.1 m2
    exact this.symm
  have hk := h.one
  have hks := h.less
  by_cases c : k - 1 + t < s
  · have := key (k - 1) (by omega) c
    omega
  · have := key (s - 1 - t) (by omega) (by omega)
    omega
/-- How many ones a pattern's own bits have. -/
theorem pc_row (k r s : Nat) (hk : k ≤ s) (hr : r < s) (v : Nat) (h : ∀ j, j < s → v.testBit j = decide ((j + r) % s < k)) : pcN v s = k := by
  -- by r ones from the far end, the rest from the near one
  have step : ∀ n, n ≤ s → pcN v n = (if n + r ≤ s then min k (n + r) - min k r else (k - min k r) + min k (n + r - s)) := by
    intro n
    induction n with
    | zero => intro _; simp [pcN]; omega
    | succ n ih =>
      intro hn
      rw [pcN, ih (by omega), h n (by omega), modS (n + r) s (by omega)]
      by_cases c1 : n + r < s
      · rw [if_pos c1, if_pos (show n + r ≤ s by omega), if_pos (show n + 1 + r ≤ s by omega)]
        by_cases c2 : n + r < k
        · simp [c2]; omega
        · simp [c2]; omega
      · rw [if_neg c1, if_neg (show ¬ n + 1 + r ≤ s by omega)]
        by_cases c3 : n + r = s
        · rw [if_pos (by omega)]
          by_cases c2 : n + r - s < k
          · simp [c2]; omega
          · simp [c2]; omega
        · rw [if_neg (by omega)]
          by_cases c2 : n + r - s < k
          · simp [c2]; omega
          · simp [c2]; omega
  rw [step s (Nat.le_refl _)]
  by_cases c : r = 0
  · subst c; rw [if_pos (by omega)]; omega
  · rw [if_neg (by omega)]; omega

/-- The number that bytes make, the lowest first. -/
def ofB : List Nat → Nat
  | [] => 0
  | b :: l => b + 256 * ofB l
theorem and_byte (b c y z : Nat) (hb : b < 256) (hc : c < 256) : (b + 256 * y) &&& (c + 256 * z) = (b &&& c) + 256 * (y &&& z) := by
  have h1 : ((b + 256 * y) &&& (c + 256 * z)) % 2 ^ 8 = (b &&& c) := by
    rw [Nat.and_mod_two_pow, show (b + 256 * y) % 2 ^ 8 = b from by omega, show (c + 256 * z) % 2 ^ 8 = c from by omega]
  have h2 : ((b + 256 * y) &&& (c + 256 * z)) / 2 ^ 8 = (y &&& z) := by
    rw [Nat.and_div_two_pow, show (b + 256 * y) / 2 ^ 8 = y from by omega, show (c + 256 * z) / 2 ^ 8 = z from by omega]
  omega
theorem b55 : ∀ b, b < 256 → ∀ k, k < 2 → (b / 2 + 128 * k) &&& 85 = b / 2 &&& 85 := by decide +kernel
theorem b33 : ∀ b, b < 256 → ∀ k, k < 4 → (b / 4 + 64 * k) &&& 51 = b / 4 &&& 51 := by decide +kernel
def f1 (b : Nat) : Nat := (b / 2 &&& 85) + (b &&& 85)
def f2 (b : Nat) : Nat := (b / 4 &&& 51) + (b &&& 51)
def f3 (b : Nat) : Nat := b / 16 + b % 16
theorem f_lt : ∀ b, b < 256 → f1 b < 256 ∧ f2 (f1 b) < 256 ∧ f2 (f1 b) / 16 ≤ 4 ∧ f2 (f1 b) % 16 ≤ 4 ∧ f3 (f2 (f1 b)) = pcN b 8 := by decide +kernel
theorem pcN_byte (b y n : Nat) (hb : b < 256) : pcN (b + 256 * y) (8 + n) = pcN b 8 + pcN y n := by
  induction n with
  | zero =>
    simp only [Nat.add_zero, pcN]
    have : ∀ j, j < 8 → (b + 256 * y).testBit j = b.testBit j := by
      intro j hj
      have h := Nat.testBit_mod_two_pow (b + 256 * y) 8 j
      rw [show (b + 256 * y) % 2 ^ 8 = b from by omega] at h
      rw [h]; simp [hj]
    simp only [this 0 (by omega), this 1 (by omega), this 2 (by omega), this 3 (by omega), this 4 (by omega), this 5 (by omega), this 6 (by omega), this 7 (by omega)]
  | succ n ih =>
    have h : ((b + 256 * y) / 2 ^ 8).testBit n = (b + 256 * y).testBit (n + 8) := Nat.testBit_div_two_pow _ _
    rw [show (b + 256 * y) / 2 ^ 8 = y from by omega, Nat.add_comm n 8] at h
    rw [show 8 + (n + 1) = 8 + n + 1 from rfl, show pcN (b + 256 * y) (8 + n + 1) = pcN (b + 256 * y) (8 + n) + if (b + 256 * y).testBit (8 + n) then 1 else 0 from rfl, ih,
      show pcN y (n + 1) = pcN y n + if y.testBit n then 1 else 0 from rfl, h, Nat.add_assoc]

def okB8 (l : List Nat) : Prop := ∀ b ∈ l, b < 256
theorem swar1 (l : List Nat) (h : okB8 l) : (ofB l / 2 &&& ofB (l.map fun _ => 85)) + (ofB l &&& ofB (l.map fun _ => 85)) = ofB (l.map f1) := by
  induction l with
  | nil => rfl
  | cons b l ih =>
    have hb := h b (by simp)
    have ih := ih (fun x hx => h x (by simp [hx]))
    simp only [List.map, ofB]
    rw [show (b + 256 * ofB l) / 2 = (b / 2 + 128 * (ofB l % 2)) + 256 * (ofB l / 2) from by omega,
      and_byte _ _ _ _ (by omega) (by omega), and_byte _ _ _ _ hb (by omega), b55 b hb _ (by omega), ← ih]
    unfold f1; omega
theorem swar2 (l : List Nat) (h : okB8 l) : (ofB l / 4 &&& ofB (l.map fun _ => 51)) + (ofB l &&& ofB (l.map fun _ => 51)) = ofB (l.map f2) := by
  induction l with
  | nil => rfl
  | cons b l ih =>
    have hb := h b (by simp)
    have ih := ih (fun x hx => h x (by simp [hx]))
    simp only [List.map, ofB]
    rw [show (b + 256 * ofB l) / 4 = (b / 4 + 64 * (ofB l % 4)) + 256 * (ofB l / 4) from by omega,
      and_byte _ _ _ _ (by omega) (by omega), and_byte _ _ _ _ hb (by omega), b33 b hb _ (by omega), ← ih]
    unfold f2; omega
theorem swar3 (l : List Nat) (h : ∀ b ∈ l, b / 16 ≤ 4 ∧ b % 16 ≤ 4) : (ofB l / 16 + ofB l) &&& ofB (l.map fun _ => 15) = ofB (l.map f3) := by
  induction l with
  | nil => rfl
  | cons b l ih =>
    have hb := h b (by simp)
    have ih := ih (fun x hx => h x (by simp [hx]))
    have hy : ofB l % 16 ≤ 4 := by
      cases l with
      | nil => simp [ofB]
      | cons c l => have := h c (by simp); simp only [ofB]; omega
    simp only [List.map, ofB]
    rw [show (b + 256 * ofB l) / 16 + (b + 256 * ofB l) = (b / 16 + b + 16 * (ofB l % 16)) + 256 * (ofB l / 16 + ofB l) from by omega,
      and_byte _ _ _ _ (by omega) (by omega), ih, show (15 : Nat) = 2 ^ 4 - 1 from rfl, Nat.and_two_pow_sub_one_eq_mod]
    unfold f3; omega
theorem ofB_pc (l : List Nat) (h : okB8 l) : pcN (ofB l) (8 * l.length) = (l.map fun b => pcN b 8).sum := by
  induction l with
  | nil => rfl
  | cons b l ih =>
    rw [ofB, List.length_cons, show 8 * (l.length + 1) = 8 + 8 * l.length from by omega, pcN_byte _ _ _ (h b (by simp)), ih (fun x hx => h x (by simp [hx]))]
    simp
def sw1 (x : Nat) : Nat := (x / 2 &&& 6148914691236517205) + (x &&& 6148914691236517205)
def sw2 (x : Nat) : Nat := (x / 4 &&& 3689348814741910323) + (x &&& 3689348814741910323)
def sw3 (x : Nat) : Nat := (x / 16 + x) &&& 1085102592571150095
theorem swar (x : Nat) (hx : x < 18446744073709551616) :
    ∃ t0 t1 t2 t3 t4 t5 t6 t7, t0 ≤ 8 ∧ t1 ≤ 8 ∧ t2 ≤ 8 ∧ t3 ≤ 8 ∧ t4 ≤ 8 ∧ t5 ≤ 8 ∧ t6 ≤ 8 ∧ t7 ≤ 8 ∧
      sw3 (sw2 (sw1 x)) = t0 + 256 * (t1 + 256 * (t2 + 256 * (t3 + 256 * (t4 + 256 * (t5 + 256 * (t6 + 256 * t7)))))) ∧
      pcN x 64 = t0 + t1 + t2 + t3 + t4 + t5 + t6 + t7 ∧ sw1 x < 18446744073709551616 ∧ sw2 (sw1 x) < 1152921504606846976 * 5 := by
  obtain ⟨b0, b1, b2, b3, b4, b5, b6, b7, k0, k1, k2, k3, k4, k5, k6, k7, he⟩ : ∃ b0 b1 b2 b3 b4 b5 b6 b7, b0 < 256 ∧ b1 < 256 ∧ b2 < 256 ∧ b3 < 256 ∧ b4 < 256 ∧ b5 < 256 ∧ b6 < 256 ∧ b7 < 256 ∧
      x = b0 + 256 * (b1 + 256 * (b2 + 256 * (b3 + 256 * (b4 + 256 * (b5 + 256 * (b6 + 256 * b7)))))) := by
    refine ⟨x % 256, x / 256 % 256, x / 65536 % 256, x / 16777216 % 256, x / 4294967296 % 256, x / 1099511627776 % 256, x / 281474976710656 % 256, x / 72057594037927936, ?_, ?_, ?_, ?_, ?_, ?_, ?_, ?_, ?_⟩
    all_goals omega
  have hl : okB8 [b0, b1, b2, b3, b4, b5, b6, b7] := by
    intro b hb
    simp only [List.mem_cons, List.not_mem_nil, or_false] at hb
    rcases hb with rfl | rfl | rfl | rfl | rfl | rfl | rfl | rfl <;> assumption
  have hpc := ofB_pc _ hl
  have s1 := swar1 _ hl
  have g := fun b hb => f_lt b (hl b hb)
  have hl1 : okB8 ([b0, b1, b2, b3, b4, b5, b6, b7].map f1) := by
    intro b hb
    obtain ⟨c, hc, rfl⟩ := List.mem_map.1 hb
    exact (g c hc).1
  have s2 := swar2 _ hl1
  have s3 := swar3 (([b0, b1, b2, b3, b4, b5, b6, b7].map f1).map f2) (by
    intro b hb
    obtain ⟨c, hc, rfl⟩ := List.mem_map.1 hb
    obtain ⟨d, hd, rfl⟩ := List.mem_map.1 hc
    exact ⟨(g d hd).2.2.1, (g d hd).2.2.2.1⟩)
  simp only [List.map, ofB, Nat.mul_zero, Nat.add_zero, Nat.reduceMul, Nat.reduceAdd] at s1 s2 s3
  have e0 := g b0 (by simp)
  have e1 := g b1 (by simp)
  have e2 := g b2 (by simp)
  have e3 := g b3 (by simp)
  have e4 := g b4 (by simp)
  have e5 := g b5 (by simp)
  have e6 := g b6 (by simp)
  have e7 := g b7 (by simp)
  simp only [List.map, List.sum_cons, List.sum_nil, Nat.add_zero] at hpc
  have p0 := pcN_le b0 8
  have p1 := pcN_le b1 8
  have p2 := pcN_le b2 8
  have p3 := pcN_le b3 8
  have p4 := pcN_le b4 8
  have p5 := pcN_le b5 8
  have p6 := pcN_le b6 8
  have p7 := pcN_le b7 8
  rw [← he] at s1
  have q1 : sw1 x = f1 b0 + 256 * (f1 b1 + 256 * (f1 b2 + 256 * (f1 b3 + 256 * (f1 b4 + 256 * (f1 b5 + 256 * (f1 b6 + 256 * f1 b7)))))) := s1
  have q2 : sw2 (sw1 x) = f2 (f1 b0) + 256 * (f2 (f1 b1) + 256 * (f2 (f1 b2) + 256 * (f2 (f1 b3) + 256 * (f2 (f1 b4) + 256 * (f2 (f1 b5) + 256 * (f2 (f1 b6) + 256 * f2 (f1 b7))))))) := by rw [q1]; exact s2
  have q3 : sw3 (sw2 (sw1 x)) = f3 (f2 (f1 b0)) + 256 * (f3 (f2 (f1 b1)) + 256 * (f3 (f2 (f1 b2)) + 256 * (f3 (f2 (f1 b3)) + 256 * (f3 (f2 (f1 b4)) + 256 * (f3 (f2 (f1 b5)) + 256 * (f3 (f2 (f1 b6)) + 256 * f3 (f2 (f1 b7)))))))) := by rw [q2]; exact s3
  refine ⟨pcN b0 8, pcN b1 8, pcN b2 8, pcN b3 8, pcN b4 8, pcN b5 8, pcN b6 8, pcN b7 8, p0, p1, p2, p3, p4, p5, p6, p7, ?_, ?_, ?_, ?_⟩
  · rw [q3, e0.2.2.2.2, e1.2.2.2.2, e2.2.2.2.2, e3.2.2.2.2, e4.2.2.2.2, e5.2.2.2.2, e6.2.2.2.2, e7.2.2.2.2]
  · have e : ofB [b0, b1, b2, b3, b4, b5, b6, b7] = x := by rw [he]; rfl
    rw [e, show 8 * [b0, b1, b2, b3, b4, b5, b6, b7].length = 64 from rfl] at hpc
    omega
  · rw [q1]; omega
  · rw [q2]; omega
theorem swar_end (t0 t1 t2 t3 t4 t5 t6 t7 z : Nat) (k0 : t0 ≤ 8) (k1 : t1 ≤ 8) (k2 : t2 ≤ 8) (k3 : t3 ≤ 8) (k4 : t4 ≤ 8) (k5 : t5 ≤ 8) (k6 : t6 ≤ 8) (k7 : t7 ≤ 8)
    (hz : z = t0 + 256 * (t1 + 256 * (t2 + 256 * (t3 + 256 * (t4 + 256 * (t5 + 256 * (t6 + 256 * t7))))))) :
    ∃ a b y : Nat, (z : Int) + (z : Int) / 256 = a ∧ a < 4611686018427387904 ∧ (a : Int) + (a : Int) / 65536 = b ∧ b < 4611686018427387904 ∧ (b : Int) + (b : Int) / 4294967296 = y ∧ y < 4611686018427387904 ∧ y % 128 = t0 + t1 + t2 + t3 + t4 + t5 + t6 + t7 := by
  obtain ⟨z6, h6⟩ : ∃ x, x = t6 + 256 * t7 := ⟨_, rfl⟩
  obtain ⟨z5, h5⟩ : ∃ x, x = t5 + 256 * z6 := ⟨_, rfl⟩
  obtain ⟨z4, h4⟩ : ∃ x, x = t4 + 256 * z5 := ⟨_, rfl⟩
  obtain ⟨z3, h3⟩ : ∃ x, x = t3 + 256 * z4 := ⟨_, rfl⟩
  obtain ⟨z2, h2⟩ : ∃ x, x = t2 + 256 * z3 := ⟨_, rfl⟩
  obtain ⟨z1, h1⟩ : ∃ x, x = t1 + 256 * z2 := ⟨_, rfl⟩
  rw [← h6, ← h5, ← h4, ← h3, ← h2, ← h1] at hz
  have d1 : z / 256 = z1 := by omega
  have d2 : (z + z1) / 65536 = z2 + z3 := by omega
  have d3 : (z + z1 + (z2 + z3)) / 4294967296 = z4 + z5 + z6 + t7 := by omega
  refine ⟨z + z1, z + z1 + (z2 + z3), z + z1 + (z2 + z3) + (z4 + z5 + z6 + t7), ?_, ?_, ?_, ?_, ?_, ?_, ?_⟩
  · rw [← d1]; rfl
  · clear d1 d2 d3; omega
  · rw [← d2]; rfl
  · clear d1 d2 d3; omega
  · rw [← d3]; rfl
  · clear d1 d2 d3; omega
  · clear d1 d2 d3; omega
end Go.Proofs.YtkcgnmicaigjfaaDoor
