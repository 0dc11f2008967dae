/- part: Quad. part: Quad, with a symbol. part: Word, no note. part: Word, refused. part: Word, with a note. part: Align, refused. part: Align, what lacks. -/
import Derived.Test.YtdgfadabaejkhaaGreatDoorkXB
namespace Go.Proofs.YtdgfadabaejkhaaGreatDoor
set_option linter.unusedVariables false
set_option linter.unusedSimpArgs false
open Go.RowKit
open Go.ChangeShapes Go.WideShapes Go.Deep Go.RowKit

theorem lack_mod (s k : Nat) (hs : s ≤ 4096) (hk : k ≤ 12) : (18446744073709551616 - s) % 18446744073709551616 % 2 ^ k = lackN s k := by
  unfold lackN
  obtain h | h | h | h | h | h | h | h | h | h | h | h | h : k = 0 ∨ k = 1 ∨ k = 2 ∨ k = 3 ∨ k = 4 ∨ k = 5 ∨ k = 6 ∨ k = 7 ∨ k = 8 ∨ k = 9 ∨ k = 10 ∨ k = 11 ∨ k = 12 := by omega
  all_goals
    subst h
    omega
theorem and_lack (s k : Nat) (hs : s ≤ 4096) (hk : k ≤ 12) : bits .and .i64 (-(s : Int)) (((2 ^ k - 1 : Nat)) : Int) = ((lackN s k : Nat) : Int) := by
  have hp : 2 ^ k ≤ 2 ^ 12 := Nat.pow_le_pow_right (by decide) hk
  have hp0 : 0 < 2 ^ k := Nat.two_pow_pos k
  have hl : lackN s k < 2 ^ k := Nat.mod_lt _ hp0
  have h1 : (BitVec.ofInt 64 (-(s : Int))).toNat = (18446744073709551616 - s) % 18446744073709551616 := by
    rw [BitVec.toNat_ofInt]; omega
  have h2 : (BitVec.ofInt 64 (((2 ^ k - 1 : Nat)) : Int)).toNat = 2 ^ k - 1 := by
    rw [BitVec.ofInt_natCast, BitVec.toNat_ofNat]; exact Nat.mod_eq_of_lt (by omega)
  have e : (BitVec.ofInt 64 (-(s : Int)) &&& BitVec.ofInt 64 (((2 ^ k - 1 : Nat)) : Int)).toNat = lackN s k := by
    rw [BitVec.toNat_and, h1, h2, Nat.and_two_pow_sub_one_eq_mod, lack_mod s k hs hk]
  show IntKind.i64.wrap ((BitVec.ofInt 64 (-(s : Int)) &&& BitVec.ofInt 64 (((2 ^ k - 1 : Nat)) : Int)).toNat : Int) = _
  rw [e]
  simp only [IntKind.wrap_i64]
  omega
end Go.Proofs.YtdgfadabaejkhaaGreatDoor
