/- What the small functions of masks answer. -/
import Derived.Test.YtdeigbdcipkaaaaGreatDoorB4
import Derived.Test.YtdeigbdcipkaaaaGreatDoorK2
import Derived.Shelf.Spec.TrailingZeros
namespace Go.Proofs.YtdeigbdcipkaaaaGreatDoor
set_option linter.unusedVariables false
set_option linter.unusedSimpArgs false
open Go.RowKit

theorem bits_and_u64 (a b : Nat) (ha : a < 18446744073709551616) (hb : b < 18446744073709551616) : bits .and .u64 (a : Int) (b : Int) = ((a &&& b : Nat) : Int) := bits_and_u64_nat a b ha hb
theorem and_i64_127 (x : Nat) (hx : x < 9223372036854775808) : bits .and .i64 (x : Int) 127 = ((x % 128 : Nat) : Int) := by
  have h1 : (BitVec.ofInt 64 (x : Int)).toNat = x := by
    rw [BitVec.ofInt_natCast, BitVec.toNat_ofNat]; exact Nat.mod_eq_of_lt (by omega)
  have h2 : (BitVec.ofInt 64 127).toNat = 127 := by decide
  have e : (BitVec.ofInt 64 (x : Int) &&& BitVec.ofInt 64 127).toNat = x % 128 := by
    rw [BitVec.toNat_and, h1, h2]; exact Nat.and_two_pow_sub_one_eq_mod x 7
  show IntKind.i64.wrap ((BitVec.ofInt 64 (x : Int) &&& BitVec.ofInt 64 127).toNat : Int) = _
  rw [e]
  simp only [IntKind.wrap_i64]
  omega
def upperS (s : Int) : Int := if s = 64 then 1 else 0
def leadS (s : Int) : Int := if s = 64 then 0 else 64 - 2 * s
theorem upper_any (s : Int) (w : World) : Calls Tryz.prog 82 #[.int .i64 s] w (Ret (.int .i64 (upperS s)) w) := by
  unfold upperS
  by_cases c : s = 64
  · rw [if_pos c]
    go_enter Tryz.func82, Tryz.ntmps82
    go_wp2
    go_ret
    exact ret_int rfl
  · rw [if_neg c]
    go_enter Tryz.func82, Tryz.ntmps82
    go_wp2
    go_ret
    exact ret_int rfl
theorem lead_any (s : Int) (w : World) (h : 2 ≤ s) (h2 : s ≤ 64) : Calls Tryz.prog 83 #[.int .i64 s] w (Ret (.int .i64 (leadS s)) w) := by
  unfold leadS
  by_cases c : s = 64
  · rw [if_pos c]
    go_enter Tryz.func83, Tryz.ntmps83
    go_wp2
    go_ret
    exact ret_int rfl
  · rw [if_neg c]
    go_enter Tryz.func83, Tryz.ntmps83
    go_wp2
    go_ret
    exact ret_int rfl

set_option maxHeartbeats 400000 in
theorem ones_any (x : Nat) (w : World) (hx : x < 18446744073709551616) :
    Calls Tryz.prog 105 #[.int .u64 x] w (Ret (.int .i64 (pcN x 64)) w) := by
  go_enter Tryz.func105, Tryz.ntmps105
  go_wp2
  go_ret
  refine ret_int ?_
  obtain ⟨t0, t1, t2, t3, t4, t5, t6, t7, k0, k1, k2, k3, k4, k5, k6, k7, he, hp, l1, l2⟩ := swar x hx
  have e1 : IntKind.u64.wrap (bits BinOp.and IntKind.u64 ((x : Int) / 2) 6148914691236517205 + bits BinOp.and IntKind.u64 (x : Int) 6148914691236517205) = ((sw1 x : Nat) : Int) := by
    have a1 := bits_and_u64 (x / 2) 6148914691236517205 (by omega) (by omega)
    have a2 := bits_and_u64 x 6148914691236517205 (by omega) (by omega)
    simp only [Int.natCast_ediv, Int.cast_ofNat_Int] at a1 a2
    rw [a1, a2, IntKind.wrap_u64]
    unfold sw1 at l1 ⊢; omega
  have e2 : IntKind.u64.wrap (bits BinOp.and IntKind.u64 (((sw1 x : Nat) : Int) / 4) 3689348814741910323 + bits BinOp.and IntKind.u64 ((sw1 x : Nat) : Int) 3689348814741910323) = ((sw2 (sw1 x) : Nat) : Int) := by
    have a1 := bits_and_u64 (sw1 x / 4) 3689348814741910323 (by omega) (by omega)
    have a2 := bits_and_u64 (sw1 x) 3689348814741910323 (by omega) (by omega)
    simp only [Int.natCast_ediv, Int.cast_ofNat_Int] at a1 a2
    rw [a1, a2, IntKind.wrap_u64]
    unfold sw2 at l2 ⊢; omega
  have e3 : bits BinOp.and IntKind.u64 (IntKind.u64.wrap (((sw2 (sw1 x) : Nat) : Int) / 16 + ((sw2 (sw1 x) : Nat) : Int))) 1085102592571150095 = ((sw3 (sw2 (sw1 x)) : Nat) : Int) := by
    have a1 := bits_and_u64 (sw2 (sw1 x) / 16 + sw2 (sw1 x)) 1085102592571150095 (by omega) (by omega)
    rw [IntKind.wrap_u64, show (((sw2 (sw1 x) : Nat) : Int) / 16 + ((sw2 (sw1 x) : Nat) : Int)) % 18446744073709551616 = ((sw2 (sw1 x) / 16 + sw2 (sw1 x) : Nat) : Int) from by omega]
    exact a1
  rw [e1, e2, e3, he, hp]
  clear e1 e2 e3 hp
  obtain ⟨a, b, y, ha, ha2, hb, hb2, hy, hy2, hr⟩ := swar_end t0 t1 t2 t3 t4 t5 t6 t7 _ k0 k1 k2 k3 k4 k5 k6 k7 rfl
  rw [ha, show IntKind.u64.wrap (a : Int) = a from by rw [IntKind.wrap_u64]; omega, hb, show IntKind.u64.wrap (b : Int) = b from by rw [IntKind.wrap_u64]; omega, hy,
    show IntKind.u64.wrap (y : Int) = y from by rw [IntKind.wrap_u64]; omega, show wrap64 (y : Int) = y from by unfold wrap64; omega, and_i64_127 y (by omega), hr]
end Go.Proofs.YtdeigbdcipkaaaaGreatDoor
