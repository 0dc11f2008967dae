/- The reference's Decode. -/
import Derived.Test.YtdeigbdcipkaaaaDoorB14
namespace Go.Proofs.YtdeigbdcipkaaaaDoor
set_option linter.unusedVariables false
set_option linter.unusedSimpArgs false
open Go.RowKit

theorem decS_out {n r s : Int} (h : n < 0 ∨ n > 1 ∨ r < 0 ∨ r > 63 ∨ s < 0 ∨ s > 63) : decS n r s = (0, 1) := by unfold decS; rw [if_pos h]
theorem decS_none {n r s : Int} (h : ¬ (n < 0 ∨ n > 1 ∨ r < 0 ∨ r > 63 ∨ s < 0 ∨ s > 63)) (e : readS n r s = (0, 0, 0)) : decS n r s = (0, 3) := by unfold decS; rw [if_neg h, if_pos e]
theorem decS_some {n r s t : Int} (h : ¬ (n < 0 ∨ n > 1 ∨ r < 0 ∨ r > 63 ∨ s < 0 ∨ s > 63)) (ht : t ≠ 0) (e : readS n r s = (t, r, s - leadS t + 1)) :
    decS n r s = (((maskN (s - leadS t + 1).toNat r.toNat t.toNat : Nat) : Int), 0) := by
  unfold decS; rw [if_neg h, e, if_neg (by simp [ht])]
theorem outs {n r s : Int} (h : n < 0 ∨ n > 1 ∨ r < 0 ∨ r > 63 ∨ s < 0 ∨ s > 63) :
    n < 0 ∨ (0 ≤ n ∧ 1 < n) ∨ (0 ≤ n ∧ n ≤ 1 ∧ r < 0) ∨ (0 ≤ n ∧ n ≤ 1 ∧ 0 ≤ r ∧ 63 < r) ∨ (0 ≤ n ∧ n ≤ 1 ∧ 0 ≤ r ∧ r ≤ 63 ∧ s < 0) ∨ (0 ≤ n ∧ n ≤ 1 ∧ 0 ≤ r ∧ r ≤ 63 ∧ 0 ≤ s ∧ 63 < s) := by omega
theorem ok_iff (n r s t : Int) : okAt n r s t = true ↔ (n = upperS t ∧ r < t ∧ 1 ≤ s - leadS t + 1 ∧ s - leadS t + 1 < t) := by
  unfold okAt; simp [and_assoc]
theorem maskN_again (k r s : Nat) : agN (rotN (2 ^ k - 1) r s s) s 64 = maskN k r s := rfl

theorem rot64 (v b : Nat) : rotN v b 64 64 < 18446744073709551616 := rotN_lt v b 64 64

theorem dbl (m : Nat) (h : isSz m = true) (hl : m ≠ 64) : isSz ((2 * m : Nat) : Int) = true := by simp [isSz] at h ⊢; omega
theorem below2 {m : Nat} {P : Int → Prop} (hm : isSz m = true) (hp : ∀ u : Int, isSz u = true → u < m → P u) (hpm : P m) : ∀ u : Int, isSz u = true → u < ((2 * m : Nat) : Int) → P u := by
  intro u hu hl
  by_cases c : u < m
  · exact hp u hu c
  · have : u = m := by simp [isSz] at hu hm; omega
    rw [this]; exact hpm

def RD (n r s : Int) (i : Value) : Prop := ∃ m : Nat, (isSz m = true ∨ m = 128) ∧ i = .int .i64 m ∧ ∀ u : Int, isSz u = true → u < m → okAt n r s u = false
theorem rd_end {n r s : Int} (hlow : ∀ u : Int, isSz u = true → u < (64 : Nat) → okAt n r s u = false) (hk : okAt n r s 64 = false) : RD n r s (.int .i64 128) :=
  ⟨128, .inr rfl, rfl, fun u hu hl => by
    by_cases c : u < 64
    · exact hlow u hu c
    · have : u = 64 := by simp [isSz] at hu; omega
      rw [this]; exact hk⟩
theorem rd_next {n r s : Int} {m : Nat} (hm : isSz m = true) (h64 : ¬ m = 64) (hlow : ∀ u : Int, isSz u = true → u < m → okAt n r s u = false) (hk : okAt n r s m = false) : RD n r s (.int .i64 (2 * (m : Int))) :=
  ⟨2 * m, .inl (dbl m hm h64), by go_num, below2 (P := fun u => okAt n r s u = false) hm hlow hk⟩

end Go.Proofs.YtdeigbdcipkaaaaDoor
