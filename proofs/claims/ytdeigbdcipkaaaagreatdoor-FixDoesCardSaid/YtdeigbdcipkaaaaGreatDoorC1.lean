/- What the functions of bits answer (fields, signs), on top of the masks' texts. -/
import Derived.Test.YtdeigbdcipkaaaaGreatDoorB3
import Derived.Test.YtdeigbdcipkaaaaGreatDoorCM
namespace Go.Proofs.YtdeigbdcipkaaaaGreatDoor
set_option linter.unusedVariables false
set_option linter.unusedSimpArgs false
open Go.RowKit

set_option maxHeartbeats 400000 in
theorem right_any (a n : Int) (w : World) :
    Calls Tryz.prog 80 #[.int .i64 a, .int .i64 n] w (Ret (.bool (decide (0 ≤ a ∧ a < 32 ∧ 1 ≤ n ∧ n ≤ 32 - a))) w) := by
  go_enter Tryz.func80, Tryz.ntmps80
  go_wp2
  all_goals (go_ret; refine ret_bool ?_; first | (rw [Bool.eq_iff_iff]; simp; omega) | simp; omega)

set_option maxHeartbeats 400000 in
theorem Right_any (a n : Int) (w : World) :
    Calls Tryz.prog 61 #[.int .i64 a, .int .i64 n] w (Ret (.bool (decide (0 ≤ a ∧ a < 32 ∧ 1 ≤ n ∧ n ≤ 32 - a))) w) := by
  go_enter Tryz.func61, Tryz.ntmps61
  go_wp2
  all_goals (go_ret; refine ret_bool ?_; first | (rw [Bool.eq_iff_iff]; simp; omega) | simp; omega)

set_option maxHeartbeats 400000 in
theorem bitones_any (n : Int) (w : World) (h0 : 0 ≤ n) (h1 : n ≤ 32) :
    Calls Tryz.prog 58 #[.int .i64 n] w (Ret (.int .u32 (2 ^ n.toNat - 1)) w) := by
  go_enter Tryz.func58, Tryz.ntmps58
  go_wp2
  go_ret
  refine ret_int ?_
  have := pow32 n h1
  simp only [IntKind.wrap_u64]; omega


set_option maxHeartbeats 400000 in
theorem signed_any (v n : Int) (w : World) (h0 : 0 ≤ v) (h1 : v < 4294967296) :
    Calls Tryz.prog 74 #[.int .u32 v, .int .i64 n] w (Ret (two .i64 .i64 (sgn v n)) w) := by
  by_cases hn : 1 ≤ n ∧ n ≤ 32
  · have hr : decide ((0:Int) ≤ 0 ∧ (0:Int) < 32 ∧ 1 ≤ n ∧ n ≤ 32 - 0) = true := by simp; omega
    obtain ⟨hn1, hn2⟩ := hn
    have ha := andNot_ones v n h0 h1 (by omega) (by omega)
    by_cases c1 : (2:Int) ^ n.toNat ≤ v
    · go_enter Tryz.func74, Tryz.ntmps74
      go_wp2_with (first | (go_at_call 80; refine (right_any _ _ _).mono ?_; rintro e w' ⟨rfl, rfl⟩) | (go_at_call 58; refine (bitones_any _ _ (by omega) (by omega)).mono ?_; rintro e w' ⟨rfl, rfl⟩))
      go_ret2
      exact ret_two (sgn1 hn1 hn2 c1)
    · have hd := div_eq_one v (n.toNat - 1) (by rw [show n.toNat - 1 + 1 = n.toNat from by omega]; omega)
      have hw := wrap64_pow n (by omega)
      have hp := pow32 n hn2
      go_enter Tryz.func74, Tryz.ntmps74
      go_wp2_with (first | (go_at_call 80; refine (right_any _ _ _).mono ?_; rintro e w' ⟨rfl, rfl⟩) | (go_at_call 58; refine (bitones_any _ _ (by omega) (by omega)).mono ?_; rintro e w' ⟨rfl, rfl⟩))
      · go_ret2
        exact ret_two (sgn2 hn1 hn2 (by assumption) (by assumption))
      · go_ret2
        exact ret_two (sgn3 hn1 hn2 (by assumption) (by assumption))
  · have hr : decide ((0:Int) ≤ 0 ∧ (0:Int) < 32 ∧ 1 ≤ n ∧ n ≤ 32 - 0) = false := by simp; omega
    go_enter Tryz.func74, Tryz.ntmps74
    go_wp2_with (first | (go_at_call 80; refine (right_any _ _ _).mono ?_; rintro e w' ⟨rfl, rfl⟩))
    go_ret2
    exact ret_two (sgn0 hn)

set_option maxHeartbeats 400000 in
theorem refSigned_any (v n : Int) (w : World) (h0 : 0 ≤ v) (h1 : v < 4294967296) :
    Calls Tryz.prog 87 #[.int .u32 v, .int .i64 n] w (Ret (two .i64 .i64 (sgn v n)) w) := by
  by_cases hn1 : n < 1
  · go_enter Tryz.func87, Tryz.ntmps87
    go_wp2
    go_ret2
    exact ret_two (sgn0 (by omega))
  by_cases hn2 : 32 < n
  · go_enter Tryz.func87, Tryz.ntmps87
    go_wp2
    go_ret2
    exact ret_two (sgn0 (by omega))
  have hp := pow32 n (by omega)
  by_cases c1 : (2:Int) ^ n.toNat ≤ v
  · have hs : decide (64 ≤ n ∨ v < 2 ^ n.toNat) = false := by simp; omega
    go_enter Tryz.func87, Tryz.ntmps87
    go_wp2_with (first | (go_at_call 100; refine (Small_any _ _ _ (by omega) (by omega)).mono ?_; rintro e w' ⟨rfl, rfl⟩))
    go_ret2
    exact ret_two (sgn1 (by omega) (by omega) c1)
  · have hs : decide (64 ≤ n ∨ v < 2 ^ n.toNat) = true := by simp; omega
    have hd := div_eq_one v (n.toNat - 1) (by rw [show n.toNat - 1 + 1 = n.toNat from by omega]; omega)
    have hd2 : (v / 2 ^ (n.toNat - 1) % 2 == 1) = decide ((2:Int) ^ (n.toNat - 1) ≤ v) := by
      have : v / 2 ^ (n.toNat - 1) < 2 := by
        apply (Int.ediv_lt_iff_lt_mul (by have := pow_pos' (n.toNat - 1); omega)).2
        have := pow_pred n (by omega); omega
      have : 0 ≤ v / 2 ^ (n.toNat - 1) := Int.ediv_nonneg h0 (by have := pow_pos' (n.toNat - 1); omega)
      rw [← hd, show v / 2 ^ (n.toNat - 1) % 2 = v / 2 ^ (n.toNat - 1) from by omega]
    clear hd
    have hw := wrap64_pow n (by omega)
    go_enter Tryz.func87, Tryz.ntmps87
    go_wp2_with (first | (go_at_call 100; refine (Small_any _ _ _ (by omega) (by omega)).mono ?_; rintro e w' ⟨rfl, rfl⟩) | (go_at_call 98; refine (Bit_any _ _ _ (by omega) (by omega) (by omega)).mono ?_; rintro e w' ⟨rfl, rfl⟩) | (go_at_call 48; refine (Power_any _ _ (by omega)).mono ?_; rintro e w' ⟨rfl, rfl⟩))
    · go_ret2
      exact ret_two (sgn2 (by omega) (by omega) (by omega) (by assumption))
    · go_ret2
      exact ret_two (sgn3 (by omega) (by omega) (by omega) (by assumption))


set_option maxHeartbeats 400000 in
theorem pack_any (v n : Int) (w : World) (h0 : -9223372036854775808 ≤ v) (h1 : v ≤ 9223372036854775807) :
    Calls Tryz.prog 84 #[.int .i64 v, .int .i64 n] w (Ret (two .u32 .i64 (pck v n)) w) := by
  by_cases hn : 1 ≤ n ∧ n ≤ 32
  · have hr : decide ((0:Int) ≤ 0 ∧ (0:Int) < 32 ∧ 1 ≤ n ∧ n ≤ 32 - 0) = true := by simp; omega
    obtain ⟨hn1, hn2⟩ := hn
    have hw := wrap64_pow (n - 1) (by omega)
    rw [show (n - 1).toNat = n.toNat - 1 from by omega] at hw
    have hp := pow_le (n.toNat - 1) 31 (by omega) 2147483648 (by decide)
    have ha : ∀ x, 0 ≤ x → x < 4294967296 → bits BinOp.and IntKind.u32 x (2 ^ n.toNat - 1) = x % 2 ^ n.toNat := fun x a b => and_ones32 x n a b (by omega) hn2
    have HA := Lib.hid ha
    clear ha
    go_enter Tryz.func84, Tryz.ntmps84
    go_wp2_with (first | (go_at_call 80; refine (right_any _ _ _).mono ?_; rintro e w' ⟨rfl, rfl⟩) | (go_at_call 58; refine (bitones_any _ _ (by omega) (by omega)).mono ?_; rintro e w' ⟨rfl, rfl⟩))
    · go_ret2
      exact ret_two (pck1 hn1 hn2 (by omega))
    · go_ret2
      refine ret_two ?_
      rw [HA.out _ (by omega) (by omega), mod_mod_pow v n.toNat (by omega)]
      exact pck2 hn1 hn2 (by omega) (by omega)
    · go_ret2
      exact ret_two (pck1 hn1 hn2 (by omega))
  · have hr : decide ((0:Int) ≤ 0 ∧ (0:Int) < 32 ∧ 1 ≤ n ∧ n ≤ 32 - 0) = false := by simp; omega
    go_enter Tryz.func84, Tryz.ntmps84
    go_wp2_with (first | (go_at_call 80; refine (right_any _ _ _).mono ?_; rintro e w' ⟨rfl, rfl⟩))
    go_ret2
    exact ret_two (pck0 hn)

set_option maxHeartbeats 400000 in
theorem refPack_any (v n : Int) (w : World) (h0 : -9223372036854775808 ≤ v) (h1 : v ≤ 9223372036854775807) :
    Calls Tryz.prog 71 #[.int .i64 v, .int .i64 n] w (Ret (two .u32 .i64 (pck v n)) w) := by
  by_cases hn1 : n < 1
  · go_enter Tryz.func71, Tryz.ntmps71
    go_wp2
    go_ret2
    exact ret_two (pck0 (by omega))
  by_cases hn2 : 32 < n
  · go_enter Tryz.func71, Tryz.ntmps71
    go_wp2
    go_ret2
    exact ret_two (pck0 (by omega))
  have hp := pow_le (n.toNat - 1) 31 (by omega) 2147483648 (by decide)
  have hw := wrap64_pow (n - 1) (by omega)
  go_enter Tryz.func71, Tryz.ntmps71
  go_wp2_with (first | (go_at_call 48; refine (Power_any _ _ (by omega)).mono ?_; rintro e w' ⟨rfl, rfl⟩))
  · go_ret2
    exact ret_two (pck1 (by omega) hn2 (by omega))
  · go_ret2
    refine ret_two ?_
    rw [pck2 (by omega) hn2 (by omega) (by omega), pow_pred n (by omega), mod_neg_pow v _ (by omega) (by omega)]
  · go_ret2
    refine ret_two ?_
    rw [pck2 (by omega) hn2 (by omega) (by omega), pow_pred n (by omega), Int.emod_eq_of_lt (by omega) (by omega)]
  · go_ret2
    exact ret_two (pck1 (by omega) hn2 (by omega))


end Go.Proofs.YtdeigbdcipkaaaaGreatDoor
