/- Numbers as digits: plain facts; no Go in sight. -/
import Derived.Test.YtklebljckmkdlaaDoorM0
import Derived.Lib.Strings
namespace Go.Proofs.YtklebljckmkdlaaDoor
set_option linter.unusedVariables false
set_option linter.unusedSimpArgs false
open Go.RowKit

/-- What a byte is worth as a digit; 16, if it is none. -/
def digB (c : UInt8) : Nat := if 48 ≤ c.toNat ∧ c.toNat ≤ 57 then c.toNat - 48 else if 97 ≤ c.toNat ∧ c.toNat ≤ 102 then c.toNat - 87 else if 65 ≤ c.toNat ∧ c.toNat ≤ 70 then c.toNat - 55 else 16
theorem digB_le (c : UInt8) : digB c ≤ 16 := by unfold digB; (repeat' split) <;> omega
theorem digB_ascii {c : UInt8} (h : digB c < 16) : c.toNat < 128 := by
  unfold digB at h
  (repeat' split at h) <;> omega
def digR (r : Nat) : Nat := if 48 ≤ r ∧ r ≤ 57 then r - 48 else if 97 ≤ r ∧ r ≤ 102 then r - 87 else if 65 ≤ r ∧ r ≤ 70 then r - 55 else 16
theorem digR_high {r : Nat} (h : 128 ≤ r) : digR r = 16 := by unfold digR; rw [if_neg (by omega), if_neg (by omega), if_neg (by omega)]
theorem digB_high {c : UInt8} (h : 128 ≤ c.toNat) : digB c = 16 := digR_high h
def okL (b : Nat) (l : List UInt8) : Bool := l.all fun c => decide (digB c < b)
theorem okL_cons (b : Nat) (c : UInt8) (l : List UInt8) : okL b (c :: l) = (decide (digB c < b) && okL b l) := rfl
def vf (b : Nat) : List UInt8 → Nat → Option Nat
  | [], v => some v
  | c :: r, v => if v * b + digB c < 18446744073709551616 then vf b r (v * b + digB c) else none
def valD (b : Nat) (l : List UInt8) : Int × Int :=
  if l = [] ∨ okL b l = false then (0, 3) else match vf b l 0 with
    | some v => ((v : Int), 0)
    | none => (0, 4)
def valS (l : List UInt8) : Int × Int := if Lib.hasPrefix l [48, 120] = true then valD 16 (l.drop 2) else valD 10 l
theorem valD_bad {b : Nat} {l : List UInt8} (h : l = [] ∨ okL b l = false) : valD b l = (0, 3) := by unfold valD; rw [if_pos h]
theorem valD_some {b v : Nat} {l : List UInt8} (h : ¬ (l = [] ∨ okL b l = false)) (e : vf b l 0 = some v) : valD b l = ((v : Int), 0) := by unfold valD; rw [if_neg h, e]
theorem valD_none {b : Nat} {l : List UInt8} (h : ¬ (l = [] ∨ okL b l = false)) (e : vf b l 0 = none) : valD b l = (0, 4) := by unfold valD; rw [if_neg h, e]
theorem vf_step {b v : Nat} {c : UInt8} {r : List UInt8} (h : v * b + digB c < 18446744073709551616) : vf b (c :: r) v = vf b r (v * b + digB c) := by rw [vf, if_pos h]
theorem vf_stop {b v : Nat} {c : UInt8} {r : List UInt8} (h : ¬ v * b + digB c < 18446744073709551616) : vf b (c :: r) v = none := by rw [vf, if_neg h]
theorem okL_drop {b : Nat} {l : List UInt8} (h : okL b l = true) (k : Nat) (hk : k < l.length) : digB l[k] < b := by
  unfold okL at h
  rw [List.all_eq_true] at h
  exact of_decide_eq_true (h _ (List.getElem_mem hk))
theorem bytes_drop (D : ByteArray) (pos : Nat) (h : pos < D.size) : D.data.toList.drop pos = D[pos] :: D.data.toList.drop (pos + 1) := by
  rw [List.drop_eq_getElem_cons (by simpa using h)]; rfl
theorem bytes_len (D : ByteArray) : D.data.toList.length = D.size := Array.length_toList

/-- Signed, Of, Sum. -/
def signS (m : Bool) (v : Int) : Int × Int := if m = true then (if v ≤ 9223372036854775808 then (-v, 0) else (0, 4)) else if v ≤ 9223372036854775807 then (v, 0) else (0, 4)
def farS (n : Int) : Int := if n < 0 then -n else n
def sumS (a n : Int) : Int × Int := if 0 ≤ a + n ∧ a + n ≤ 18446744073709551615 then (a + n, 0) else (0, 4)
end Go.Proofs.YtklebljckmkdlaaDoor
