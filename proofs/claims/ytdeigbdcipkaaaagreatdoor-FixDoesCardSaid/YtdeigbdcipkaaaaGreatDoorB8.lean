/- Trailing zeros, by the library's table; how much a part is turned. -/
import Derived.Test.YtdeigbdcipkaaaaGreatDoorB7
namespace Go.Proofs.YtdeigbdcipkaaaaGreatDoor
set_option linter.unusedVariables false
set_option linter.unusedSimpArgs false
open Go.RowKit

set_option maxHeartbeats 400000 in
theorem tz_any (x : Nat) (w : World) (hx : x < 18446744073709551616) (hT : TabAt 4 Lib.deBruijn64tab w) :
    Calls Tryz.prog 104 #[.int .u64 x] w (Ret (.int .i64 (Lib.ctz 64 x)) w) := by
  by_cases hx0 : x = 0
  · subst hx0
    go_enter Tryz.func104, Tryz.ntmps104
    go_wp2
    go_ret
    exact ret_int rfl
  · obtain ⟨hlow, hk⟩ := Lib.lowest_bit 64 x hx0 hx
    obtain ⟨hi, htab⟩ := Lib.deBruijn64_at _ hk
    have hcell := hT _ hi
    rw [htab] at hcell
    have key := tz64_key x _ hx hx0 hlow
    obtain ⟨k, hkk⟩ : ∃ k, k = Lib.ctz 64 x := ⟨_, rfl⟩
    obtain ⟨idx, hidx⟩ : ∃ i, i = 2 ^ Lib.ctz 64 x * 285870213051353865 % 18446744073709551616 / 288230376151711744 := ⟨_, rfl⟩
    rw [← hidx] at hcell key hi
    rw [← hkk] at hcell hk ⊢
    clear hT hlow htab hidx hkk
    have hi2 : idx < 64 := hi
    have hx1 : ((x : Int) == 0) = false := by rw [beq_eq_false_iff_ne]; omega
    go_enter Tryz.func104, Tryz.ntmps104
    go_wp2_with (simp only [key])
    go_ret
    exact ret_int rfl
theorem Ones_any (x : Nat) (w : World) (hx : x < 18446744073709551616) :
    Calls Tryz.prog 97 #[.int .u64 x] w (Ret (.int .i64 (pcN x 64 : Nat)) w) := by
  go_enter Tryz.func97, Tryz.ntmps97
  go_wp2_with (first | (go_at_call 105; refine (ones_any _ _ hx).mono ?_; rintro e w' ⟨rfl, rfl⟩))
  go_ret
  exact ret_int rfl
theorem ctz_le (x : Nat) (hx : x < 18446744073709551616) : Lib.ctz 64 x ≤ 64 := by
  by_cases h : x = 0
  · subst h; decide
  · have := (Lib.lowest_bit 64 x h hx).2; omega
theorem and_one (x : Nat) (hx : x < 18446744073709551616) : bits BinOp.and IntKind.u64 (x : Int) 1 = ((x % 2 : Nat) : Int) := by
  have := and_bit x 0 hx
  simpa using this
theorem xor_max (x : Nat) (hx : x < 18446744073709551616) : bits BinOp.xor IntKind.u64 IntKind.u64.max (x : Int) = ((18446744073709551615 - x : Nat) : Int) := by
  have h1 : (BitVec.ofInt 64 (x : Int)).toNat = x := by
    rw [BitVec.ofInt_natCast, BitVec.toNat_ofNat]; exact Nat.mod_eq_of_lt (by omega)
  have h2 : BitVec.ofInt 64 IntKind.u64.max = BitVec.allOnes 64 := by decide
  have e : (BitVec.ofInt 64 IntKind.u64.max ^^^ BitVec.ofInt 64 (x : Int)).toNat = 18446744073709551615 - x := by
    rw [h2, BitVec.allOnes_xor, BitVec.toNat_not, h1]
  show IntKind.u64.wrap ((BitVec.ofInt 64 IntKind.u64.max ^^^ BitVec.ofInt 64 (x : Int)).toNat : Int) = _
  rw [e, IntKind.wrap_u64]; omega
def turnS (x s : Nat) : Int := if x % 2 = 0 then ((s : Int) - (Lib.ctz 64 x : Nat) % s) % s else (pcN x 64 : Nat) - (Lib.ctz 64 (18446744073709551615 - x) : Nat)

set_option maxHeartbeats 400000 in
theorem turn_any (x s : Nat) (w : World) (hx : x < 18446744073709551616) (h1 : 1 ≤ s) (h2 : s ≤ 64) (hT : TabAt 4 Lib.deBruijn64tab w) :
    Calls Tryz.prog 96 #[.int .u64 x, .int .i64 s] w (Ret (.int .i64 (turnS x s)) w) := by
  have HT := Lib.hid hT
  have a1 := and_one x hx
  clear hT
  unfold turnS
  by_cases c : x % 2 = 0
  · rw [if_pos c]
    have hb : (bits BinOp.and IntKind.u64 (x : Int) 1 == 0) = true := by rw [a1, c]; rfl
    clear a1 c
    obtain ⟨z, hz, hzl⟩ : ∃ z : Nat, z = Lib.ctz 64 x ∧ z ≤ 64 := ⟨_, rfl, ctz_le x hx⟩
    have K : Hid (∀ w, TabAt 4 Lib.deBruijn64tab w → Calls Tryz.prog 104 #[.int .u64 x] w (Ret (.int .i64 z) w)) := Lib.hid fun w h => by rw [hz]; exact tz_any x w hx h
    rw [← hz]
    clear hz
    have m1 : 0 ≤ (z : Int) % s := Int.emod_nonneg _ (by omega)
    have m2 : (z : Int) % s < s := Int.emod_lt_of_pos _ (by omega)
    go_enter Tryz.func96, Tryz.ntmps96
    go_wp2_with (first | (go_at_call 104; refine (K.out _ HT.out).mono ?_; rintro e w' ⟨rfl, rfl⟩))
    go_ret
    exact ret_int rfl
  · rw [if_neg c]
    have hb : (bits BinOp.and IntKind.u64 (x : Int) 1 == 0) = false := by rw [a1, show x % 2 = 1 by omega]; rfl
    clear a1 c
    have hy : 18446744073709551615 - x < 18446744073709551616 := by omega
    have hpl := pcN_le x 64
    obtain ⟨y, hye⟩ : ∃ y : Nat, y = 18446744073709551615 - x := ⟨_, rfl⟩
    rw [← hye] at hy ⊢
    have hyl := ctz_le y hy
    have K : Hid (∀ w, TabAt 4 Lib.deBruijn64tab w → Calls Tryz.prog 104 #[.int .u64 (bits BinOp.xor IntKind.u64 IntKind.u64.max (x : Int))] w (Ret (.int .i64 (Lib.ctz 64 y)) w)) := Lib.hid fun w h => by rw [xor_max x hx, ← hye]; exact tz_any y w hy h
    obtain ⟨q, hq⟩ : ∃ q, q = pcN x 64 := ⟨_, rfl⟩
    have KO : Hid (∀ w, Calls Tryz.prog 97 #[.int .u64 x] w (Ret (.int .i64 q) w)) := Lib.hid fun w => by rw [hq]; exact Ones_any x w hx
    obtain ⟨z, hz⟩ : ∃ z, z = Lib.ctz 64 y := ⟨_, rfl⟩
    rw [← hz] at K hyl ⊢
    rw [← hq] at hpl ⊢
    clear hz hq hye
    go_enter Tryz.func96, Tryz.ntmps96
    go_wp2_with (first | (go_at_call 97; refine (KO.out _).mono ?_; rintro e w' ⟨rfl, rfl⟩) | (go_at_call 104; refine (K.out _ HT.out).mono ?_; rintro e w' ⟨rfl, rfl⟩))
    go_ret
    exact ret_int rfl
end Go.Proofs.YtdeigbdcipkaaaaGreatDoor
