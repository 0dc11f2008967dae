/- mask.make64. -/
import Derived.Test.YtdeigbdcipkaaaaGreatDoorB10
namespace Go.Proofs.YtdeigbdcipkaaaaGreatDoor
set_option linter.unusedVariables false
set_option linter.unusedSimpArgs false
open Go.RowKit

def maskN (k r s : Nat) : Nat := agN (rotN (2 ^ k - 1) r s s) s 64
theorem low_ones (k : Nat) (hk : k ≤ 63) : 18446744073709551615 % 2 ^ k = 2 ^ k - 1 := by
  have h : 18446744073709551615 = 2 ^ k * (2 ^ (64 - k) - 1) + (2 ^ k - 1) := by
    rw [Nat.mul_sub_one, ← Nat.pow_add, show k + (64 - k) = 64 from by omega]
    have := Nat.pow_le_pow_right (show 0 < 2 by decide) (show k ≤ 64 by omega)
    have := Nat.two_pow_pos k
    omega
  rw [h, Nat.mul_add_mod]
  exact Nat.mod_eq_of_lt (by have := Nat.two_pow_pos k; omega)
theorem lowOnes_any (k : Nat) (w : World) (h1 : 1 ≤ k) (hk : k ≤ 63) :
    Calls Tryz.prog 95 #[.int .u64 18446744073709551615, .int .i64 k] w (Ret (.int .u64 (2 ^ k - 1 : Nat)) w) := by
  have := low_natC 18446744073709551615 k w h1 (by omega)
  rwa [low_ones k hk] at this

set_option maxHeartbeats 1000000 in
theorem make64_any (k r s : Nat) (w : World) (hs : isSz s = true) (h1 : 1 ≤ k) (hk : k < s) (hr : r < s) :
    Calls Tryz.prog 93 #[.agg #[.int .i64 s, .int .i64 r, .int .i64 k]] w (RetB (.int .u64 (maskN k r s)) w) := by
  have hl := isSz_le hs
  have hlt := rotN_lt (2 ^ k - 1) r s s
  have HK : Hid (∀ w, Calls Tryz.prog 95 #[.int .u64 18446744073709551615, .int .i64 k] w (Ret (.int .u64 (2 ^ k - 1 : Nat)) w)) := Lib.hid fun w => lowOnes_any k w h1 (by omega)
  have hp := rotS2 (v := 2 ^ k - 1) hs hr (by
    have h1 : 2 ^ k ≤ 2 ^ s := Nat.pow_le_pow_right (by decide) (by omega)
    have h2 := Nat.two_pow_pos k
    rw [← pow_cast]; omega)
  have hpl := pow_lt64 k (by omega)
  unfold maskN
  obtain ⟨q, hq⟩ : ∃ q, q = rotN (2 ^ k - 1) r s s := ⟨_, rfl⟩
  obtain ⟨o, ho⟩ : ∃ o, o = 2 ^ k - 1 := ⟨_, rfl⟩
  rw [← hq] at hlt ⊢
  have HR : Hid (∀ w, Calls Tryz.prog 102 #[.int .u64 o, .int .i64 r, .int .i64 s] w (Ret (.tuple #[.int .u64 q, .int .i64 0]) w)) := Lib.hid fun w => by
    have := rotate_any ((2 ^ k - 1 : Nat) : Int) r s w (by omega) (by omega)
    rw [hp, ← hq, ← ho] at this
    exact this
  have HP : Hid (∀ w, Calls Tryz.prog 103 #[.int .u64 q, .int .i64 s] w (Ret (.int .u64 (agN q s 64 : Nat)) w)) := Lib.hid fun w => repeat_any q s w hs hlt
  have hql : q < 18446744073709551616 := Nat.lt_of_lt_of_le hlt (Nat.le_trans (Nat.pow_le_pow_right (by decide) (show s ≤ 64 by omega)) (by decide))
  rw [← ho] at HK
  clear hq ho hp hlt hpl hs
  go_enter Tryz.func93, Tryz.ntmps93
  go_wp2
  go_quiet (first
    | (go_at_call 95; exact Calls.quiet_of_same ((HK.out _).mono fun e w' h => ⟨h.1, h.2.symm⟩))
    | (go_at_call 102; exact Calls.quiet_of_same ((HR.out _).mono fun e w' h => ⟨h.1, h.2.symm⟩)))
  go_wp2_with (first | (go_at_call 103; refine (HP.out _).mono ?_; rintro e w' ⟨rfl, rfl⟩))
  go_ret
  exact ⟨rfl, below_drewN ((Below.refl _ _).alloc (Nat.le_refl _) _) _⟩
end Go.Proofs.YtdeigbdcipkaaaaGreatDoor
