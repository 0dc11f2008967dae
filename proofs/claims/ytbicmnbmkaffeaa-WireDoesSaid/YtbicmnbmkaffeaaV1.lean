/- Numbers as bytes that end by themselves: plain facts; no Go in sight. -/
import Derived.Test.YtbicmnbmkaffeaaM0
import Derived.Lib.Strings
namespace Go.Proofs.Ytbicmnbmkaffeaa
set_option linter.unusedVariables false
set_option linter.unusedSimpArgs false
open Go.RowKit

def putF : Nat → Nat → List UInt8
  | 0, _ => []
  | n + 1, v => if v < 128 then [UInt8.ofNat v] else UInt8.ofNat (v % 128 + 128) :: putF n (v / 128)
def putL (v : Nat) : List UInt8 := putF 10 v
/-- The number, how many bytes, the error: 0, 3 (form), 9 (more). -/
def getF : Nat → Nat → List UInt8 → Nat × Nat × Nat
  | _, _, [] => (0, 0, 9)
  | k, v, b :: r => if (k = 9 ∧ 1 < b.toNat) ∨ (0 < k ∧ b.toNat = 0) then (0, 0, 3) else if b.toNat < 128 then (v + b.toNat * 128 ^ k, k + 1, 0) else getF (k + 1) (v + b.toNat % 128 * 128 ^ k) r
def getL (l : List UInt8) : Nat × Nat × Nat := getF 0 0 l

theorem putF_small {n v : Nat} (h : v < 128) : putF (n + 1) v = [UInt8.ofNat v] := by rw [putF, if_pos h]
theorem putF_big {n v : Nat} (h : 128 ≤ v) : putF (n + 1) v = UInt8.ofNat (v % 128 + 128) :: putF n (v / 128) := by rw [putF, if_neg (by omega)]
theorem small_nat {v : Nat} (h : v < 128) : (UInt8.ofNat v).toNat = v := by rw [UInt8.toNat_ofNat']; omega
theorem big_nat (v : Nat) : (UInt8.ofNat (v % 128 + 128)).toNat = v % 128 + 128 := by rw [UInt8.toNat_ofNat']; omega
theorem getF_form {k v : Nat} {b : UInt8} {r : List UInt8} (h : (k = 9 ∧ 1 < b.toNat) ∨ (0 < k ∧ b.toNat = 0)) : getF k v (b :: r) = (0, 0, 3) := by rw [getF, if_pos h]
theorem getF_end {k v : Nat} {b : UInt8} {r : List UInt8} (h : ¬ ((k = 9 ∧ 1 < b.toNat) ∨ (0 < k ∧ b.toNat = 0))) (h2 : b.toNat < 128) : getF k v (b :: r) = (v + b.toNat * 128 ^ k, k + 1, 0) := by rw [getF, if_neg h, if_pos h2]
theorem getF_on {k v : Nat} {b : UInt8} {r : List UInt8} (h : ¬ ((k = 9 ∧ 1 < b.toNat) ∨ (0 < k ∧ b.toNat = 0))) (h2 : ¬ b.toNat < 128) : getF k v (b :: r) = getF (k + 1) (v + b.toNat % 128 * 128 ^ k) r := by rw [getF, if_neg h, if_neg h2]
theorem pow_b {k : Nat} (h : k ≤ 9) : 128 ^ k ≤ 9223372036854775808 := Nat.le_trans (Nat.pow_le_pow_right (by decide) h) (by decide)
theorem pow_p (k : Nat) : 0 < 128 ^ k := Nat.pow_pos (by decide)
theorem pow_s (k : Nat) : 128 ^ (k + 1) = 128 * 128 ^ k := by rw [Nat.pow_succ, Nat.mul_comm]
theorem pow_9 : 128 ^ 9 = 9223372036854775808 := by decide

/-- What is put is got, whatever stands behind. -/
theorem get_back (n : Nat) : ∀ (k a u : Nat) (more : List UInt8), k + n = 9 → (0 < k → 0 < u) → u * 128 ^ k < 18446744073709551616 →
    getF k a (putF (n + 1) u ++ more) = (a + u * 128 ^ k, k + (putF (n + 1) u).length, 0) := by
  induction n with
  | zero =>
    intro k a u more hk h0 hu
    obtain rfl : k = 9 := by omega
    rw [pow_9] at hu
    rw [putF_small (by omega), List.singleton_append, getF_end (by rw [small_nat (by omega)]; omega) (by rw [small_nat (by omega)]; omega), small_nat (by omega)]
    rfl
  | succ n ih =>
    intro k a u more hk h0 hu
    by_cases c : u < 128
    · rw [putF_small c, List.singleton_append, getF_end (by rw [small_nat c]; omega) (by rw [small_nat c]; exact c), small_nat c]
      rfl
    · rw [putF_big (by omega), List.cons_append, getF_on (by rw [big_nat]; omega) (by rw [big_nat]; omega), big_nat, show (u % 128 + 128) % 128 = u % 128 from by omega]
      have e : u = u % 128 + 128 * (u / 128) := by omega
      have h2 : u / 128 * 128 ^ (k + 1) ≤ u * 128 ^ k := by
        rw [pow_s, ← Nat.mul_assoc]; exact Nat.mul_le_mul_right _ (by omega)
      rw [ih (k + 1) _ (u / 128) more (by omega) (by omega) (by omega), List.length_cons]
      have h3 : a + u % 128 * 128 ^ k + u / 128 * 128 ^ (k + 1) = a + u * 128 ^ k := by
        rw [pow_s, Nat.add_assoc, ← Nat.mul_assoc, ← Nat.add_mul, show u % 128 + u / 128 * 128 = u from by omega]
      rw [h3]; congr 2; omega
theorem getL_back (v : Nat) (more : List UInt8) (h : v < 18446744073709551616) : getL (putL v ++ more) = (v, (putL v).length, 0) := by
  have := get_back 9 0 0 v more rfl (by omega) (by simpa using h)
  simpa [getL, putL] using this

/-- A beginning of what is put asks for more. -/
theorem get_more (n : Nat) : ∀ (k a u m : Nat), k + n = 9 → (0 < k → 0 < u) → u * 128 ^ k < 18446744073709551616 → m < (putF (n + 1) u).length →
    getF k a ((putF (n + 1) u).take m) = (0, 0, 9) := by
  induction n with
  | zero =>
    intro k a u m hk h0 hu hm
    obtain rfl : k = 9 := by omega
    rw [pow_9] at hu
    rw [putF_small (by omega)] at hm ⊢
    obtain rfl : m = 0 := by simpa using hm
    rfl
  | succ n ih =>
    intro k a u m hk h0 hu hm
    by_cases c : u < 128
    · rw [putF_small c] at hm ⊢
      obtain rfl : m = 0 := by simpa using hm
      rfl
    · rw [putF_big (by omega)] at hm ⊢
      cases m with
      | zero => rfl
      | succ m =>
        rw [List.take_succ_cons, getF_on (by rw [big_nat]; omega) (by rw [big_nat]; omega)]
        refine ih (k + 1) _ (u / 128) m (by omega) (by omega) ?_ (by simpa using hm)
        have h2 : u / 128 * 128 ^ (k + 1) ≤ u * 128 ^ k := by
          rw [pow_s, ← Nat.mul_assoc]; exact Nat.mul_le_mul_right _ (by omega)
        omega
theorem getL_more (v m : Nat) (h : v < 18446744073709551616) (hm : m < (putL v).length) : getL ((putL v).take m) = (0, 0, 9) :=
  get_more 9 0 0 v m rfl (by omega) (by simpa using h) hm

/-- What is got is put as it was. -/
theorem get_only (l : List UInt8) : ∀ (n k v x m : Nat), k + n = 9 → v < 128 ^ k → getF k v l = (x, m, 0) →
    ∃ u, x = v + u * 128 ^ k ∧ k < m ∧ m ≤ 10 ∧ m ≤ k + l.length ∧ putF (n + 1) u = l.take (m - k) ∧ (0 < k → 0 < u) ∧ x < 18446744073709551616 := by
  induction l with
  | nil => intro n k v x m _ _ h; simp [getF] at h
  | cons b r ih =>
    intro n k v x m hk hv h
    by_cases c1 : (k = 9 ∧ 1 < b.toNat) ∨ (0 < k ∧ b.toNat = 0)
    · rw [getF_form c1] at h; simp at h
    · by_cases c2 : b.toNat < 128
      · rw [getF_end c1 c2] at h
        simp only [Prod.mk.injEq, and_true] at h
        obtain ⟨rfl, rfl⟩ := h
        refine ⟨b.toNat, rfl, by omega, by omega, by simp, ?_, by omega, ?_⟩
        · rw [putF_small c2, show k + 1 - k = 1 from by omega]; simp
        · by_cases e : k = 9
          · subst e; rw [pow_9] at hv ⊢; have : b.toNat ≤ 1 := by omega
            omega
          · have h3 : b.toNat * 128 ^ k ≤ 127 * 128 ^ k := Nat.mul_le_mul_right _ (by omega)
            have h4 := pow_b (k := k + 1) (by omega)
            rw [pow_s] at h4
            omega
      · have hk9 : k ≠ 9 := by omega
        rw [getF_on c1 c2] at h
        obtain ⟨n, rfl⟩ : ∃ n', n = n' + 1 := ⟨n - 1, by omega⟩
        have hv' : v + b.toNat % 128 * 128 ^ k < 128 ^ (k + 1) := by
          have : b.toNat % 128 * 128 ^ k ≤ 127 * 128 ^ k := Nat.mul_le_mul_right _ (by omega)
          rw [pow_s]; omega
        obtain ⟨u, e1, e2, e3, e4, e5, e6, e7⟩ := ih n (k + 1) _ x m (by omega) hv' h
        have hb : b.toNat < 256 := b.toNat_lt
        have hu : 0 < u := e6 (by omega)
        refine ⟨b.toNat % 128 + 128 * u, ?_, by omega, e3, by simp; omega, ?_, by omega, e7⟩
        · rw [e1, pow_s, Nat.add_assoc, ← Nat.mul_assoc, ← Nat.add_mul, Nat.mul_comm 128 u]
        · rw [putF_big (by omega), show (b.toNat % 128 + 128 * u) % 128 + 128 = b.toNat from by omega, show (b.toNat % 128 + 128 * u) / 128 = u from by omega, e5,
            show m - k = (m - (k + 1)) + 1 from by omega, List.take_succ_cons]
          congr 1
          exact UInt8.ofNat_toNat
theorem getL_only {l : List UInt8} {x m : Nat} (h : getL l = (x, m, 0)) : 1 ≤ m ∧ m ≤ 10 ∧ m ≤ l.length ∧ putL x = l.take m ∧ x < 18446744073709551616 := by
  obtain ⟨u, e1, e2, e3, e4, e5, e6, e7⟩ := get_only l 9 0 0 x m rfl (by decide) h
  simp only [Nat.pow_zero, Nat.mul_one, Nat.zero_add] at e1
  subst e1
  exact ⟨by omega, e3, by omega, by simpa [putL] using e5, e7⟩
/-- What is got: a number, so many bytes, or an error. -/
theorem get_kind (l : List UInt8) : ∀ (k v : Nat), k ≤ 9 → (∃ x m, getF k v l = (x, m, 0)) ∨ getF k v l = (0, 0, 3) ∨ getF k v l = (0, 0, 9) := by
  induction l with
  | nil => intro k v _; exact .inr (.inr rfl)
  | cons b r ih =>
    intro k v hk
    by_cases c1 : (k = 9 ∧ 1 < b.toNat) ∨ (0 < k ∧ b.toNat = 0)
    · exact .inr (.inl (getF_form c1))
    · by_cases c2 : b.toNat < 128
      · exact .inl ⟨_, _, getF_end c1 c2⟩
      · rw [getF_on c1 c2]; exact ih _ _ (by omega)
theorem getL_kind (l : List UInt8) : (∃ x m, getL l = (x, m, 0)) ∨ getL l = (0, 0, 3) ∨ getL l = (0, 0, 9) := get_kind l 0 0 (by decide)

/-- How many bytes. -/
theorem put_len (n : Nat) : ∀ v, v < 128 ^ (n + 1) → 1 ≤ (putF (n + 1) v).length ∧ (putF (n + 1) v).length ≤ n + 1 ∧ v < 128 ^ (putF (n + 1) v).length ∧ ((putF (n + 1) v).length = 1 ∨ 128 ^ ((putF (n + 1) v).length - 1) ≤ v) := by
  induction n with
  | zero => intro v h; rw [putF_small (by simpa using h)]; exact ⟨by simp, by simp, by simpa using h, .inl rfl⟩
  | succ n ih =>
    intro v h
    by_cases c : v < 128
    · rw [putF_small c]; exact ⟨by simp, by simp, by simpa using c, .inl rfl⟩
    · rw [putF_big (by omega)]
      have h2 : v / 128 < 128 ^ (n + 1) := Nat.div_lt_of_lt_mul (by rw [pow_s] at h; exact h)
      obtain ⟨e1, e2, e3, e4⟩ := ih (v / 128) h2
      refine ⟨by simp, by simp; omega, ?_, .inr ?_⟩
      · rw [List.length_cons, pow_s]; omega
      · rw [List.length_cons, Nat.add_sub_cancel]
        rcases e4 with e4 | e4
        · rw [e4]; omega
        · obtain ⟨j, hj⟩ : ∃ j, (putF (n + 1) (v / 128)).length = j + 1 := ⟨_, (Nat.sub_add_cancel e1).symm⟩
          rw [hj] at e4 ⊢
          rw [Nat.add_sub_cancel] at e4
          rw [pow_s]; omega
theorem putL_len {v : Nat} (h : v < 18446744073709551616) : 1 ≤ (putL v).length ∧ (putL v).length ≤ 10 ∧ v < 128 ^ (putL v).length ∧ ((putL v).length = 1 ∨ 128 ^ ((putL v).length - 1) ≤ v) :=
  put_len 9 v (Nat.lt_of_lt_of_le h (by decide))
theorem putL_mono {v w : Nat} (h : v ≤ w) (hw : w < 18446744073709551616) : (putL v).length ≤ (putL w).length := by
  obtain ⟨a1, a2, a3, a4⟩ := putL_len (v := v) (by omega)
  obtain ⟨b1, b2, b3, b4⟩ := putL_len hw
  apply Classical.byContradiction
  intro c
  rcases a4 with a4 | a4
  · omega
  · have := Nat.pow_le_pow_right (n := 128) (by decide) (show (putL w).length ≤ (putL v).length - 1 by omega)
    omega

/-- Ints. -/
def zig (n : Int) : Nat := if n < 0 then (-2 * n - 1).toNat else (2 * n).toNat
def zag (v : Nat) : Int := if v % 2 = 1 then -((v / 2 : Nat) : Int) - 1 else ((v / 2 : Nat) : Int)
theorem zag_zig (n : Int) : zag (zig n) = n := by
  unfold zig zag
  split
  · rw [if_pos (by omega)]; omega
  · rw [if_neg (by omega)]; omega
theorem zig_zag (v : Nat) : zig (zag v) = v := by
  unfold zig zag
  by_cases c : v % 2 = 1
  · rw [if_pos c, if_pos (by omega)]; omega
  · rw [if_neg c, if_neg (by omega)]; omega
theorem zig_lt {n : Int} (h : -9223372036854775808 ≤ n) (h2 : n ≤ 9223372036854775807) : zig n < 18446744073709551616 := by unfold zig; split <;> omega
theorem zag_b {v : Nat} (h : v < 18446744073709551616) : -9223372036854775808 ≤ zag v ∧ zag v ≤ 9223372036854775807 := by unfold zag; split <;> omega
def geti (l : List UInt8) : Int × Nat × Nat := if (getL l).2.2 = 0 then (zag (getL l).1, (getL l).2.1, 0) else (0, 0, (getL l).2.2)

end Go.Proofs.Ytbicmnbmkaffeaa
