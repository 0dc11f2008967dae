/- What the loops of masks answer. -/
import Derived.Test.YtdeigbdcipkaaaaGreatDoorB5
namespace Go.Proofs.YtdeigbdcipkaaaaGreatDoor
set_option linter.unusedVariables false
set_option linter.unusedSimpArgs false
open Go.RowKit

theorem agN_self (p s : Nat) (h : p < 2 ^ s) : agN p s s = p := by
  apply Nat.eq_of_testBit_eq
  intro j
  rw [agN_bit]
  by_cases c : j < s
  · simp [c, Nat.mod_eq_of_lt c]
  · have := Nat.testBit_lt_two_pow (x := p) (i := j) (Nat.lt_of_lt_of_le h (Nat.pow_le_pow_right (by decide) (by omega)))
    simp [c, this]
theorem agN_double (p s m : Nat) (h : s ∣ m) : agN p s m ||| (agN p s m * 2 ^ m) = agN p s (2 * m) := by
  apply Nat.eq_of_testBit_eq
  intro j
  rw [Nat.testBit_or, Nat.mul_comm (agN p s m), Nat.testBit_two_pow_mul, agN_bit, agN_bit, agN_bit]
  by_cases c : m ≤ j
  · have e : (j - m) % s = j % s := by
      obtain ⟨q, rfl⟩ := h
      obtain ⟨r, rfl⟩ := Nat.le.dest c
      rw [Nat.add_sub_cancel_left, Nat.add_comm, Nat.add_mul_mod_self_left]
    have e2 : (j - m < m) = (j < 2 * m) := by simp only [eq_iff_iff]; omega
    rw [e]
    simp [c, Nat.not_lt.2 c, e2]
  · have c1 : j < m := by omega
    have c2 : j < 2 * m := by omega
    simp [c, c1, c2]
theorem or_double (p s m : Nat) (h : s ∣ m) (hm : 2 * m ≤ 64) :
    bits BinOp.or IntKind.u64 (agN p s m : Int) (IntKind.u64.wrap ((agN p s m : Int) * 2 ^ m)) = ((agN p s (2 * m) : Nat) : Int) := by
  have l1 := agN_lt p s m
  have l2 : agN p s m * 2 ^ m < 18446744073709551616 := by
    have h1 : agN p s m * 2 ^ m < 2 ^ m * 2 ^ m := Nat.mul_lt_mul_of_pos_right l1 (Nat.two_pow_pos m)
    rw [← Nat.pow_add] at h1
    exact Nat.lt_of_lt_of_le h1 (Nat.le_trans (Nat.pow_le_pow_right (by decide) (show m + m ≤ 64 by omega)) (by decide))
  have l3 : agN p s m < 18446744073709551616 := Nat.lt_of_lt_of_le l1 (Nat.le_trans (Nat.pow_le_pow_right (by decide) (show m ≤ 64 by omega)) (by decide))
  rw [show ((agN p s m : Int) * 2 ^ m) = ((agN p s m * 2 ^ m : Nat) : Int) from by rw [Int.natCast_mul, pow_cast], IntKind.wrap_u64,
    show ((agN p s m * 2 ^ m : Nat) : Int) % 18446744073709551616 = ((agN p s m * 2 ^ m : Nat) : Int) from by omega, bits_or_u64_nat _ _ l3 l2, agN_double p s m h]

set_option maxHeartbeats 400000 in
theorem repeat_any (p s : Nat) (w : World) (hs : isSz s = true) (hp : p < 2 ^ s) :
    Calls Tryz.prog 103 #[.int .u64 p, .int .i64 s] w (Ret (.int .u64 (agN p s 64 : Nat)) w) := by
  have hl := isSz_le hs
  have E0 := Lib.hid (agN_self p s hp)
  clear hp
  go_enter Tryz.func103, Tryz.ntmps103
  go_wp2
  go_loop [1, 5] (fun i v => ∃ m : Nat, isSz m = true ∧ s ∣ m ∧ i = .int .i64 m ∧ v = .int .u64 (agN p s m : Nat)) (fun i _ => 64 - (intOf i).toNat)
  case atStart => exact ⟨s, hs, Nat.dvd_refl s, rfl, by rw [E0.out]⟩
  case round =>
    obtain ⟨m, hm, hd, rfl, rfl⟩ := hrel
    have hm2 := isSz_le hm
    have H0 := Lib.hid hm
    have HD := Lib.hid hd
    clear hd hm
    by_cases hlt : m < 64
    · have h32 : m ≤ 32 := by have := H0.out; simp [isSz] at this; omega
      have HE := Lib.hid (or_double p s m HD.out (by omega))
      have l1 : agN p s m < 18446744073709551616 := Nat.lt_of_lt_of_le (agN_lt p s m) (Nat.le_trans (Nat.pow_le_pow_right (by decide) (show m ≤ 64 by omega)) (by decide))
      go_wp2
      go_round
      case rel => exact ⟨2 * m, by have := H0.out; simp [isSz] at this ⊢; omega, Nat.dvd_trans HD.out (Nat.dvd_mul_left m 2), by go_num, by rw [HE.out]⟩
      case measure => simp [intOf]; omega
    · obtain rfl : m = 64 := by omega
      go_wp2
      go_ret
      exact ret_int rfl

set_option maxHeartbeats 400000 in
theorem refOnes_any (v : Nat) (w : World) (hv : v < 18446744073709551616) :
    Calls Tryz.prog 90 #[.int .u64 v] w (Ret (.int .i64 (pcN v 64 : Nat)) w) := by
  go_enter Tryz.func90, Tryz.ntmps90
  go_wp2
  go_loop [3, 4] (fun n i => ∃ k : Nat, k ≤ 64 ∧ i = .int .i64 k ∧ n = .int .i64 (pcN v k : Nat)) (fun _ i => 64 - (intOf i).toNat)
  case atStart => exact ⟨0, by omega, rfl, rfl⟩
  case round =>
    obtain ⟨k, hk, rfl, rfl⟩ := hrel
    have hle := pcN_le v k
    by_cases hlt : k < 64
    · cases hx : v.testBit k
      all_goals
        have HX := Lib.hid hx
        go_wp2_with (first | (go_at_call 98; refine (Bit_nat _ _ _ (by omega) (by omega)).mono ?_; rintro e w' ⟨rfl, rfl⟩))
        go_round
        case rel => exact ⟨k + 1, by omega, by go_num, by rw [pcN, HX.out]; go_num⟩
        case measure => simp [intOf]; omega
    · obtain rfl : k = 64 := by omega
      go_wp2
      go_ret
      exact ret_int rfl

set_option maxHeartbeats 400000 in
theorem again_any (v s : Nat) (w : World) (hv : v < 18446744073709551616) (h1 : 1 ≤ s) (h2 : s ≤ 64) :
    Calls Tryz.prog 85 #[.int .u64 v, .int .i64 s] w (Ret (.int .u64 (agN v s 64 : Nat)) w) := by
  go_enter Tryz.func85, Tryz.ntmps85
  go_wp2
  go_loop [5, 6] (fun t i => ∃ k : Nat, k ≤ 64 ∧ i = .int .i64 k ∧ t = .int .u64 (agN v s k : Nat)) (fun _ i => 64 - (intOf i).toNat)
  case atStart => exact ⟨0, by omega, rfl, rfl⟩
  case round =>
    obtain ⟨k, hk, rfl, rfl⟩ := hrel
    by_cases hlt : k < 64
    · obtain ⟨m, hm, hms⟩ : ∃ m : Nat, (k : Int) % s = m ∧ m = k % s := ⟨k % s, by rw [Int.natCast_emod], rfl⟩
      have hml : m < s := by rw [hms]; exact Nat.mod_lt _ (by omega)
      have H1 := Lib.hid hms
      have H3 := Lib.hid (sum_step _ k (agN_lt v s k) (by omega))
      clear hms
      cases hx : v.testBit m
      all_goals
        have HX := Lib.hid hx
        go_wp2_with (first | (go_at_call 98; refine (Bit_nat _ _ _ (by omega) (by omega)).mono ?_; rintro e w' ⟨rfl, rfl⟩) | (go_at_call 48; refine (Power_any _ _ (by omega)).mono ?_; rintro e w' ⟨rfl, rfl⟩))
        go_round
        case rel => exact ⟨k + 1, by omega, by go_num, by (try rw [H3.out]); rw [agN, ← H1.out, HX.out]; simp⟩
        case measure => simp [intOf]; omega
    · obtain rfl : k = 64 := by omega
      go_wp2
      go_ret
      exact ret_int rfl
end Go.Proofs.YtdeigbdcipkaaaaGreatDoor
