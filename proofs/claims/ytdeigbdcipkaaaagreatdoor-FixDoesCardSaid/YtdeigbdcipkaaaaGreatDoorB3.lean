/- What the functions of bits and of its reference answer (lowest bits, powers, sizes), for masks. -/
import Derived.Test.YtdeigbdcipkaaaaGreatDoorRows
import Derived.Test.YtdeigbdcipkaaaaGreatDoorM0
import Derived.Test.YtdeigbdcipkaaaaGreatDoorS
import Derived.WalkSpells
import Derived.WalkLawsBesides
namespace Go.Proofs.YtdeigbdcipkaaaaGreatDoor
set_option linter.unusedVariables false
set_option linter.unusedSimpArgs false
open Go.RowKit

set_option maxHeartbeats 400000 in
theorem Power_any (n : Int) (w : World) (h : n ≤ 63) :
    Calls Tryz.prog 48 #[.int .i64 n] w (Ret (.int .u64 (2 ^ n.toNat)) w) := by
  go_enter Tryz.func48, Tryz.ntmps48
  go_wp2
  go_loop [3, 4] (fun p i => ∃ k : Nat, k ≤ n.toNat ∧ i = .int .i64 k ∧ p = .int .u64 (2 ^ k)) (fun _ i => n.toNat - (intOf i).toNat)
  case atStart => exact ⟨0, Nat.zero_le _, rfl, rfl⟩
  case round =>
    obtain ⟨k, hk, rfl, rfl⟩ := hrel
    by_cases hlt : (k : Int) < n
    · have hp := pow_le (k + 1) 63 (by omega) 9223372036854775808 (by decide)
      have e : IntKind.u64.wrap (2 * 2 ^ k) = 2 ^ (k + 1) := by
        rw [Int.pow_succ] at hp ⊢
        rw [IntKind.wrap_u64]; omega
      have E := Lib.hid e
      clear e hp
      go_wp2
      go_round
      case rel => exact ⟨k + 1, by omega, by go_num, by rw [E.out]⟩
      case measure => simp [intOf]; omega
    · go_wp2
      go_ret
      refine ret_int ?_
      rw [show n.toNat = k from by omega]

set_option maxHeartbeats 400000 in
theorem Small_any (v n : Int) (w : World) (h0 : 0 ≤ v) (h1 : v < 18446744073709551616) :
    Calls Tryz.prog 100 #[.int .u64 v, .int .i64 n] w (Ret (.bool (decide (64 ≤ n ∨ v < 2 ^ n.toNat))) w) := by
  by_cases h : 64 ≤ n
  · go_enter Tryz.func100, Tryz.ntmps100
    go_wp2
    go_ret
    exact ret_bool (by simp [h])
  · go_enter Tryz.func100, Tryz.ntmps100
    go_wp2_with (first | (go_at_call 48; refine (Power_any _ _ (by omega)).mono ?_; rintro e w' ⟨rfl, rfl⟩))
    go_ret
    exact ret_bool (by simp [h]; omega)

set_option maxHeartbeats 400000 in
theorem Bit_any (v n : Int) (w : World) (h0 : 0 ≤ v) (h1 : v < 18446744073709551616) (hn : n ≤ 63) :
    Calls Tryz.prog 98 #[.int .u64 v, .int .i64 n] w (Ret (.bool (v / 2 ^ n.toNat % 2 == 1)) w) := by
  have hp := pow63 n hn
  have hq : 0 ≤ v / 2 ^ n.toNat := Int.ediv_nonneg h0 (by omega)
  go_enter Tryz.func98, Tryz.ntmps98
  go_wp2_with (first | (go_at_call 48; refine (Power_any _ _ (by omega)).mono ?_; rintro e w' ⟨rfl, rfl⟩))
  go_ret
  exact ret_bool rfl

def low (v n : Int) : Int := if n ≤ 0 then 0 else if 64 ≤ n then v else v % 2 ^ n.toNat
set_option maxHeartbeats 400000 in
theorem low_any (v n : Int) (w : World) (h0 : 0 ≤ v) (h1 : v < 18446744073709551616) :
    Calls Tryz.prog 95 #[.int .u64 v, .int .i64 n] w (Ret (.int .u64 (low v n)) w) := by
  by_cases c1 : n ≤ 0
  · go_enter Tryz.func95, Tryz.ntmps95
    go_wp2
    go_ret
    exact ret_int (by simp [low, c1])
  by_cases c2 : 64 ≤ n
  · go_enter Tryz.func95, Tryz.ntmps95
    go_wp2
    go_ret
    refine ret_int ?_
    unfold low; rw [if_neg (by omega), if_pos (by omega)]
  have ha := and_ones64 v n h0 h1 (by omega) (by omega)
  have hb := wrap_ones n (by omega)
  rw [← hb] at ha
  have HA := Lib.hid ha
  clear ha hb
  go_enter Tryz.func95, Tryz.ntmps95
  go_wp2
  go_ret
  refine ret_int ?_
  rw [HA.out]; unfold low; rw [if_neg (by omega), if_neg (by omega)]

set_option maxHeartbeats 400000 in
theorem refLow_any (v n : Int) (w : World) (h0 : 0 ≤ v) (h1 : v < 18446744073709551616) :
    Calls Tryz.prog 91 #[.int .u64 v, .int .i64 n] w (Ret (.int .u64 (low v n)) w) := by
  by_cases c1 : n ≤ 0
  · go_enter Tryz.func91, Tryz.ntmps91
    go_wp2
    go_ret
    exact ret_int (by simp [low, c1])
  by_cases c2 : 64 ≤ n
  · go_enter Tryz.func91, Tryz.ntmps91
    go_wp2
    go_ret
    refine ret_int ?_
    unfold low; rw [if_neg (by omega), if_pos (by omega)]
  have hp := pow63 n (by omega)
  go_enter Tryz.func91, Tryz.ntmps91
  go_wp2_with (first | (go_at_call 48; refine (Power_any _ _ (by omega)).mono ?_; rintro e w' ⟨rfl, rfl⟩))
  go_ret
  refine ret_int ?_
  unfold low; rw [if_neg (by omega), if_neg (by omega)]

def isSz (n : Int) : Bool := n == 2 || n == 4 || n == 8 || n == 16 || n == 32 || n == 64
set_option maxHeartbeats 400000 in
theorem isSize_any (n : Int) (w : World) :
    Calls Tryz.prog 107 #[.int .i64 n] w (Ret (.bool (isSz n)) w) := by
  go_enter Tryz.func107, Tryz.ntmps107
  go_wp2
  go_loop [4] (fun i => ∃ k : Nat, k ≤ 6 ∧ i = .int .i64 k ∧ ∀ j, j < k → n ≠ 2 * 2 ^ j) (fun i => 6 - (intOf i).toNat)
  case atStart => exact ⟨0, by omega, rfl, by omega⟩
  case round =>
    obtain ⟨k, hk, rfl, hn⟩ := hrel
    have HN := Lib.hid hn
    clear hn
    by_cases hlt : (k : Int) < 6
    · have hw : wrap64 (2 * 2 ^ k) = 2 * 2 ^ k := by
        have := pow_le k 5 (by omega) 32 (by decide)
        unfold wrap64; omega
      by_cases he : n = 2 * 2 ^ k
      · have hb : (n == 2 * 2 ^ k) = true := by simpa using he
        have HE := Lib.hid he
        clear he
        go_wp2
        go_ret
        refine ret_bool ?_
        have h6 : k = 0 ∨ k = 1 ∨ k = 2 ∨ k = 3 ∨ k = 4 ∨ k = 5 := by omega
        rw [HE.out]
        rcases h6 with rfl | rfl | rfl | rfl | rfl | rfl <;> rfl
      · have hb : (n == 2 * 2 ^ k) = false := by simpa using he
        have HE := Lib.hid he
        clear he
        go_wp2
        go_round
        case rel => exact ⟨k + 1, by omega, by go_num, fun j hj => if h : j = k then h ▸ HE.out else HN.out j (by omega)⟩
        case measure => simp [intOf]; omega
    · go_wp2
      go_ret
      refine ret_bool ?_
      obtain rfl : k = 6 := by omega
      have h0 := HN.out 0 (by omega)
      have h1 := HN.out 1 (by omega)
      have h2 := HN.out 2 (by omega)
      have h3 := HN.out 3 (by omega)
      have h4 := HN.out 4 (by omega)
      have h5 := HN.out 5 (by omega)
      simp only [Int.reducePow, Int.reduceMul] at h0 h1 h2 h3 h4 h5
      simp [isSz, h0, h1, h2, h3, h4, h5]

end Go.Proofs.YtdeigbdcipkaaaaGreatDoor
