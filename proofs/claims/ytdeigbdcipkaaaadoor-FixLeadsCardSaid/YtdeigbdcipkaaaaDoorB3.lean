/- What the functions of bits and of its reference answer (lowest bits, powers, sizes), for masks. -/
import Derived.Test.YtdeigbdcipkaaaaDoorRows
import Derived.Test.YtdeigbdcipkaaaaDoorM0
import Derived.Test.YtdeigbdcipkaaaaDoorS
import Derived.WalkSpells
import Derived.WalkLawsBesides
namespace Go.Proofs.YtdeigbdcipkaaaaDoor
set_option linter.unusedVariables false
set_option linter.unusedSimpArgs false
open Go.RowKit

def low (v n : Int) : Int := if n ≤ 0 then 0 else if 64 ≤ n then v else v % 2 ^ n.toNat
set_option maxHeartbeats 400000 in
theorem low_any (v n : Int) (w : World) (h0 : 0 ≤ v) (h1 : v < 18446744073709551616) :
    Calls Tryd.prog 56 #[.int .u64 v, .int .i64 n] w (Ret (.int .u64 (low v n)) w) := by
  by_cases c1 : n ≤ 0
  · go_enter Tryd.func56, Tryd.ntmps56
    go_wp2
    go_ret
    exact ret_int (by simp [low, c1])
  by_cases c2 : 64 ≤ n
  · go_enter Tryd.func56, Tryd.ntmps56
    go_wp2
    go_ret
    refine ret_int ?_
    unfold low; rw [if_neg (by omega), if_pos (by omega)]
  have ha := and_ones64 v n h0 h1 (by omega) (by omega)
  have hb := wrap_ones n (by omega)
  rw [← hb] at ha
  have HA := Lib.hid ha
  clear ha hb
  go_enter Tryd.func56, Tryd.ntmps56
  go_wp2
  go_ret
  refine ret_int ?_
  rw [HA.out]; unfold low; rw [if_neg (by omega), if_neg (by omega)]

def isSz (n : Int) : Bool := n == 2 || n == 4 || n == 8 || n == 16 || n == 32 || n == 64
set_option maxHeartbeats 400000 in
theorem isSize_any (n : Int) (w : World) :
    Calls Tryd.prog 65 #[.int .i64 n] w (Ret (.bool (isSz n)) w) := by
  go_enter Tryd.func65, Tryd.ntmps65
  go_wp2
  go_loop [4] (fun i => ∃ k : Nat, k ≤ 6 ∧ i = .int .i64 k ∧ ∀ j, j < k → n ≠ 2 * 2 ^ j) (fun i => 6 - (intOf i).toNat)
  case atStart => exact ⟨0, by omega, rfl, by omega⟩
  case round =>
    obtain ⟨k, hk, rfl, hn⟩ := hrel
    have HN := Lib.hid hn
    clear hn
    by_cases hlt : (k : Int) < 6
    · have hw : wrap64 (2 * 2 ^ k) = 2 * 2 ^ k := by
        have := pow_le k 5 (by omega) 32 (by decide)
        unfold wrap64; omega
      by_cases he : n = 2 * 2 ^ k
      · have hb : (n == 2 * 2 ^ k) = true := by simpa using he
        have HE := Lib.hid he
        clear he
        go_wp2
        go_ret
        refine ret_bool ?_
        have h6 : k = 0 ∨ k = 1 ∨ k = 2 ∨ k = 3 ∨ k = 4 ∨ k = 5 := by omega
        rw [HE.out]
        rcases h6 with rfl | rfl | rfl | rfl | rfl | rfl <;> rfl
      · have hb : (n == 2 * 2 ^ k) = false := by simpa using he
        have HE := Lib.hid he
        clear he
        go_wp2
        go_round
        case rel => exact ⟨k + 1, by omega, by go_num, fun j hj => if h : j = k then h ▸ HE.out else HN.out j (by omega)⟩
        case measure => simp [intOf]; omega
    · go_wp2
      go_ret
      refine ret_bool ?_
      obtain rfl : k = 6 := by omega
      have h0 := HN.out 0 (by omega)
      have h1 := HN.out 1 (by omega)
      have h2 := HN.out 2 (by omega)
      have h3 := HN.out 3 (by omega)
      have h4 := HN.out 4 (by omega)
      have h5 := HN.out 5 (by omega)
      simp only [Int.reducePow, Int.reduceMul] at h0 h1 h2 h3 h4 h5
      simp [isSz, h0, h1, h2, h3, h4, h5]

end Go.Proofs.YtdeigbdcipkaaaaDoor
