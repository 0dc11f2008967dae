/- What the functions of bits and of its reference answer (lowest bits, powers, sizes), for masks. What both Rotate functions answer, for every input. -/
import Derived.Test.YtkcgnmicaigjfaaDoorRows
import Derived.Test.YtkcgnmicaigjfaaDoorM0
import Derived.Test.YtkcgnmicaigjfaaDoorS
import Derived.WalkSpells
import Derived.WalkLawsBesides
import Derived.Test.YtkcgnmicaigjfaaDoorkRK
namespace Go.Proofs.YtkcgnmicaigjfaaDoor
set_option linter.unusedVariables false
set_option linter.unusedSimpArgs false
open Go.RowKit

def low (v n : Int) : Int := if n ≤ 0 then 0 else if 64 ≤ n then v else v % 2 ^ n.toNat
set_option maxHeartbeats 400000 in
theorem low_any (v n : Int) (w : World) (h0 : 0 ≤ v) (h1 : v < 18446744073709551616) :
    Calls Tryd.prog 64 #[.int .u64 v, .int .i64 n] w (Ret (.int .u64 (low v n)) w) := by
  by_cases c1 : n ≤ 0
  · go_enter Tryd.func64, Tryd.ntmps64
    go_wp2
    go_ret
    exact ret_int (by simp [low, c1])
  by_cases c2 : 64 ≤ n
  · go_enter Tryd.func64, Tryd.ntmps64
    go_wp2
    go_ret
    refine ret_int ?_
    unfold low; rw [if_neg (by omega), if_pos (by omega)]
  have ha := and_ones64 v n h0 h1 (by omega) (by omega)
  have hb := wrap_ones n (by omega)
  rw [← hb] at ha
  have HA := Lib.hid ha
  clear ha hb
  go_enter Tryd.func64, Tryd.ntmps64
  go_wp2
  go_ret
  refine ret_int ?_
  rw [HA.out]; unfold low; rw [if_neg (by omega), if_neg (by omega)]

def isSz (n : Int) : Bool := n == 2 || n == 4 || n == 8 || n == 16 || n == 32 || n == 64
set_option maxHeartbeats 400000 in
theorem isSize_any (n : Int) (w : World) :
    Calls Tryd.prog 90 #[.int .i64 n] w (Ret (.bool (isSz n)) w) := by
  go_enter Tryd.func90, Tryd.ntmps90
  go_wp2
  go_loop [4] (fun i => ∃ k : Nat, k ≤ 6 ∧ i = .int .i64 k ∧ ∀ j, j < k → n ≠ 2 * 2 ^ j) (fun i => 6 - (intOf i).toNat)
  case atStart => exact ⟨0, by omega, rfl, by omega⟩
  case round =>
    obtain ⟨k, hk, rfl, hn⟩ := hrel
    have HN := Lib.hid hn
    clear hn
    by_cases hlt : (k : Int) < 6
    · have hw : wrap64 (2 * 2 ^ k) = 2 * 2 ^ k := by
        have := pow_le k 5 (by omega) 32 (by decide)
        unfold wrap64; omega
      by_cases he : n = 2 * 2 ^ k
      · have hb : (n == 2 * 2 ^ k) = true := by simpa using he
        have HE := Lib.hid he
        clear he
        go_wp2
        go_ret
        refine ret_bool ?_
        have h6 : k = 0 ∨ k = 1 ∨ k = 2 ∨ k = 3 ∨ k = 4 ∨ k = 5 := by omega
        rw [HE.out]
        rcases h6 with rfl | rfl | rfl | rfl | rfl | rfl <;> rfl
      · have hb : (n == 2 * 2 ^ k) = false := by simpa using he
        have HE := Lib.hid he
        clear he
        go_wp2
        go_round
        case rel => exact ⟨k + 1, by omega, by go_num, fun j hj => if h : j = k then h ▸ HE.out else HN.out j (by omega)⟩
        case measure => simp [intOf]; omega
    · go_wp2
      go_ret
      refine ret_bool ?_
      obtain rfl : k = 6 := by omega
      have h0 := HN.out 0 (by omega)
      have h1 := HN.out 1 (by omega)
      have h2 := HN.out 2 (by omega)
      have h3 := HN.out 3 (by omega)
      have h4 := HN.out 4 (by omega)
      have h5 := HN.out 5 (by omega)
      simp only [Int.reducePow, Int.reduceMul] at h0 h1 h2 h3 h4 h5
      simp [isSz, h0, h1, h2, h3, h4, h5]


def rotS (v b s : Int) : Int × Int :=
  if ¬ (isSz s = true ∧ 0 ≤ b ∧ b < s) then (0, 1) else if 2 ^ s.toNat ≤ v then (0, 4) else (rotN v.toNat b.toNat s.toNat s.toNat, 0)
theorem rotS0 {v b s : Int} (h : ¬ (isSz s = true ∧ 0 ≤ b ∧ b < s)) : rotS v b s = (0, 1) := if_pos h
theorem rotS1 {v b s : Int} (h : isSz s = true) (hb : 0 ≤ b) (hbs : b < s) (hv : 2 ^ s.toNat ≤ v) : rotS v b s = (0, 4) := by
  unfold rotS; rw [if_neg (by simp [h, hb, hbs]), if_pos hv]
theorem rotS2 {v b s : Nat} (h : isSz s = true) (hbs : b < s) (hv : (v : Int) < 2 ^ s) : rotS v b s = (((rotN v b s s : Nat) : Int), 0) := by
  unfold rotS; rw [if_neg (by simp [h, hbs]), if_neg (by simp only [Int.toNat_natCast]; omega)]; rfl
theorem isSz_le {s : Int} (hs : isSz s = true) : s ≤ 64 ∧ 2 ≤ s := by simp [isSz] at hs; omega
theorem low_ne (v s : Int) (h0 : 0 ≤ v) (h1 : v < 18446744073709551616) (hs : isSz s = true) : (low v s != v) = decide (2 ^ s.toNat ≤ v) := by
  have hl := isSz_le hs
  unfold low
  rw [if_neg (by omega)]
  by_cases c : 64 ≤ s
  · obtain rfl : s = 64 := by omega
    rw [if_pos c]
    have e : ¬ ((2 : Int) ^ (64 : Int).toNat ≤ v) := by
      rw [show (2 : Int) ^ (64 : Int).toNat = 18446744073709551616 from by decide]; omega
    rw [decide_eq_false e]; simp
  · rw [if_neg c, Bool.eq_iff_iff]
    have hp := pow63 s (by omega)
    simp only [bne_iff_ne, decide_eq_true_eq]
    constructor
    · intro h
      apply Classical.byContradiction
      intro h2
      exact h (Int.emod_eq_of_lt h0 (by omega))
    · intro h h2
      have := Int.emod_lt_of_pos v (show (0 : Int) < 2 ^ s.toNat by omega)
      omega

set_option maxHeartbeats 400000 in
theorem rotate_ok (v b s : Nat) (w : World) (h1 : v < 18446744073709551616) (hs : isSz s = true) (hb : b < s) (hv : (v : Int) < 2 ^ s) :
    Calls Tryd.prog 84 #[.int .u64 v, .int .i64 b, .int .i64 s] w (Ret (two .u64 .i64 (rotS v b s)) w) := by
  have hs' := isSz_le hs
  have hl : (low v s != v) = false := by
    rw [low_ne _ _ (by omega) (by omega) hs, decide_eq_false_iff_not, Int.toNat_natCast]; omega
  have HV := Lib.hid hv
  clear hv
  go_enter Tryd.func84, Tryd.ntmps84
  go_wp2_with (first | (go_at_call 90; refine (isSize_any _ _).mono ?_; rintro e w' ⟨rfl, rfl⟩) | (go_at_call 64; refine (low_any _ _ _ (by omega) (by omega)).mono ?_; rintro e w' ⟨rfl, rfl⟩))
  go_loop [8, 29] (fun t i => ∃ k : Nat, k ≤ s ∧ i = .int .i64 k ∧ t = .int .u64 (turnN v b s k)) (fun _ i => s - (intOf i).toNat)
  case atStart => exact ⟨0, by omega, rfl, rfl⟩
  case round =>
    obtain ⟨k, hk, rfl, rfl⟩ := hrel
    by_cases hlt : k < s
    · obtain ⟨m, hm, hms⟩ : ∃ m : Nat, ((k : Int) + s - b) % s = m ∧ m = (k + s - b) % s := ⟨(k + s - b) % s, by rw [Int.natCast_emod, Int.ofNat_sub (by omega)]; rfl, rfl⟩
      have hml : m < s := by rw [hms]; exact Nat.mod_lt _ (by omega)
      obtain ⟨x, hx, hxs⟩ : ∃ x : Nat, bits BinOp.and IntKind.u64 ((v : Int) / 2 ^ k) 1 = x ∧ x = v / 2 ^ k % 2 := ⟨_, and_bit v k h1, rfl⟩
      have hx1 : x ≤ 1 := by omega
      have ht : turnN v b s k < 18446744073709551616 := Nat.lt_of_lt_of_le (turnN_lt v b s k hb (by omega)) (Nat.le_trans (Nat.pow_le_pow_right (by decide) (show s ≤ 64 by omega)) (by decide))
      have H3 := Lib.hid (or_step (turnN v b s k) x m ht hx1 (by omega))
      have H1 := Lib.hid hms
      have H2 := Lib.hid hxs
      clear hms hxs ht
      go_wp2
      go_round
      case rel => exact ⟨k + 1, by omega, by go_num, by rw [H3.out, H1.out, H2.out]; rfl⟩
      case measure => simp [intOf]; omega
    · go_wp2
      go_ret2
      refine ret_two ?_
      rw [show k = s from by omega, rotS2 hs hb HV.out, turn_rot v b s hb]

set_option maxHeartbeats 400000 in
theorem rotate_any (v b s : Int) (w : World) (h0 : 0 ≤ v) (h1 : v < 18446744073709551616) :
    Calls Tryd.prog 84 #[.int .u64 v, .int .i64 b, .int .i64 s] w (Ret (two .u64 .i64 (rotS v b s)) w) := by
  by_cases hs : isSz s = true
  · have hl := isSz_le hs
    by_cases hb0 : b < 0
    · go_enter Tryd.func84, Tryd.ntmps84
      go_wp2_with (first | (go_at_call 90; refine (isSize_any _ _).mono ?_; rintro e w' ⟨rfl, rfl⟩))
      go_ret2
      exact ret_two (rotS0 (by omega))
    by_cases hb1 : s ≤ b
    · go_enter Tryd.func84, Tryd.ntmps84
      go_wp2_with (first | (go_at_call 90; refine (isSize_any _ _).mono ?_; rintro e w' ⟨rfl, rfl⟩))
      go_ret2
      exact ret_two (rotS0 (by omega))
    by_cases hv : 2 ^ s.toNat ≤ v
    · have hl : (low v s != v) = true := by rw [low_ne v s h0 h1 hs]; simpa using hv
      have HV := Lib.hid hv
      clear hv
      go_enter Tryd.func84, Tryd.ntmps84
      go_wp2_with (first | (go_at_call 90; refine (isSize_any _ _).mono ?_; rintro e w' ⟨rfl, rfl⟩) | (go_at_call 64; refine (low_any _ _ _ (by omega) (by omega)).mono ?_; rintro e w' ⟨rfl, rfl⟩))
      go_ret2
      exact ret_two (rotS1 hs (by omega) (by omega) HV.out)
    obtain ⟨v, rfl⟩ := Int.eq_ofNat_of_zero_le h0
    obtain ⟨b, rfl⟩ := Int.eq_ofNat_of_zero_le (show 0 ≤ b by omega)
    obtain ⟨s, rfl⟩ := Int.eq_ofNat_of_zero_le (show 0 ≤ s by omega)
    exact rotate_ok v b s w (by omega) hs (by omega) (by simpa using hv)
  · have hs' : isSz s = false := by simpa using hs
    go_enter Tryd.func84, Tryd.ntmps84
    go_wp2_with (first | (go_at_call 90; refine (isSize_any _ _).mono ?_; rintro e w' ⟨rfl, rfl⟩))
    go_ret2
    exact ret_two (rotS0 (by simp [hs']))


theorem sum_step (r m : Nat) (hr : r < 2 ^ m) (hm : m ≤ 63) :
    IntKind.u64.wrap ((r : Int) + 2 ^ m) = ((r + 2 ^ m : Nat) : Int) := by
  have hp : 2 ^ m ≤ 2 ^ 63 := Nat.pow_le_pow_right (by decide) hm
  rw [IntKind.wrap_u64, Int.natCast_add, pow_cast, Int.emod_eq_of_lt]
  · rw [← pow_cast, ← Int.natCast_add]; omega
  · rw [← pow_cast, ← Int.natCast_add]; omega

end Go.Proofs.YtkcgnmicaigjfaaDoor
