/- What the functions of bits and of its reference answer (fields, signs, lowest bits), each for every input within the bounds that it names. -/
import Derived.Test.YtpneegmggoebhaaRows
import Derived.Test.YtpneegmggoebhaaM
import Derived.WalkSpells
import Derived.WalkLawsBesides
namespace Go.Proofs.Ytpneegmggoebhaa
open Go.RowKit
set_option linter.unusedVariables false

def Ret (v : Value) (w : World) (e : Ending) (w' : World) : Prop := e = .returned v ∧ w = w'
theorem ret_bool {a b : Bool} {w : World} (h : a = b) : Ret (.bool b) w (.returned (.bool a)) w := ⟨by rw [h], rfl⟩
theorem ret_int {k : IntKind} {a b : Int} {w : World} (h : a = b) : Ret (.int k b) w (.returned (.int k a)) w := ⟨by rw [h], rfl⟩
abbrev two (k l : IntKind) (p : Int × Int) : Value := .tuple #[.int k p.1, .int l p.2]
theorem ret_two {k l : IntKind} {a b : Int} {p : Int × Int} {w : World} (h : p = (a, b)) : Ret (two k l p) w (.returned (.tuple #[.int k a, .int l b])) w := by subst h; exact ⟨rfl, rfl⟩

set_option maxHeartbeats 400000 in
theorem right_any (a n : Int) (w : World) :
    Calls Try.prog 24 #[.int .i64 a, .int .i64 n] w (Ret (.bool (decide (0 ≤ a ∧ a < 32 ∧ 1 ≤ n ∧ n ≤ 32 - a))) w) := by
  go_enter Try.func24, Try.ntmps24
  go_wp2
  all_goals (go_ret; refine ret_bool ?_; first | (rw [Bool.eq_iff_iff]; simp; omega) | simp; omega)

set_option maxHeartbeats 400000 in
theorem Right_any (a n : Int) (w : World) :
    Calls Try.prog 26 #[.int .i64 a, .int .i64 n] w (Ret (.bool (decide (0 ≤ a ∧ a < 32 ∧ 1 ≤ n ∧ n ≤ 32 - a))) w) := by
  go_enter Try.func26, Try.ntmps26
  go_wp2
  all_goals (go_ret; refine ret_bool ?_; first | (rw [Bool.eq_iff_iff]; simp; omega) | simp; omega)

set_option maxHeartbeats 400000 in
theorem ones_any (n : Int) (w : World) (h0 : 0 ≤ n) (h1 : n ≤ 32) :
    Calls Try.prog 25 #[.int .i64 n] w (Ret (.int .u32 (2 ^ n.toNat - 1)) w) := by
  go_enter Try.func25, Try.ntmps25
  go_wp2
  go_ret
  refine ret_int ?_
  have := pow32 n h1
  simp only [IntKind.wrap_u64]; omega


def sgn (v n : Int) : Int × Int :=
  if ¬ (1 ≤ n ∧ n ≤ 32) then (0, 1) else if 2 ^ n.toNat ≤ v then (0, 4) else if 2 ^ (n.toNat - 1) ≤ v then (v - 2 ^ n.toNat, 0) else (v, 0)
theorem sgn0 {v n : Int} (h : ¬ (1 ≤ n ∧ n ≤ 32)) : sgn v n = (0, 1) := if_pos h
theorem sgn1 {v n : Int} (h1 : 1 ≤ n) (h2 : n ≤ 32) (c : 2 ^ n.toNat ≤ v) : sgn v n = (0, 4) := by unfold sgn; rw [if_neg (by omega), if_pos c]
theorem sgn2 {v n : Int} (h1 : 1 ≤ n) (h2 : n ≤ 32) (c : v < 2 ^ n.toNat) (d : 2 ^ (n.toNat - 1) ≤ v) : sgn v n = (v - 2 ^ n.toNat, 0) := by unfold sgn; rw [if_neg (by omega), if_neg (by omega), if_pos d]
theorem sgn3 {v n : Int} (h1 : 1 ≤ n) (h2 : n ≤ 32) (c : v < 2 ^ n.toNat) (d : v < 2 ^ (n.toNat - 1)) : sgn v n = (v, 0) := by unfold sgn; rw [if_neg (by omega), if_neg (by omega), if_neg (by omega)]
def pck (v n : Int) : Int × Int :=
  if ¬ (1 ≤ n ∧ n ≤ 32) then (0, 1) else if v < - 2 ^ (n.toNat - 1) ∨ 2 ^ (n.toNat - 1) ≤ v then (0, 4) else (v % 2 ^ n.toNat, 0)
theorem pck0 {v n : Int} (h : ¬ (1 ≤ n ∧ n ≤ 32)) : pck v n = (0, 1) := if_pos h
theorem pck1 {v n : Int} (h1 : 1 ≤ n) (h2 : n ≤ 32) (c : v < - 2 ^ (n.toNat - 1) ∨ 2 ^ (n.toNat - 1) ≤ v) : pck v n = (0, 4) := by unfold pck; rw [if_neg (by omega), if_pos c]
theorem pck2 {v n : Int} (h1 : 1 ≤ n) (h2 : n ≤ 32) (c : - 2 ^ (n.toNat - 1) ≤ v) (d : v < 2 ^ (n.toNat - 1)) : pck v n = (v % 2 ^ n.toNat, 0) := by unfold pck; rw [if_neg (by omega), if_neg (by omega)]
theorem pow_pred (n : Int) (h : 1 ≤ n) : (2 : Int) ^ n.toNat = 2 * 2 ^ (n.toNat - 1) := by
  obtain ⟨k, hk⟩ : ∃ k, n.toNat = k + 1 := ⟨n.toNat - 1, by omega⟩
  rw [hk, Int.pow_succ]; simp; omega
theorem wrap64_pow (n : Int) (h : n ≤ 62) : wrap64 (2 ^ n.toNat) = 2 ^ n.toNat := by
  have := pow_le n.toNat 62 (by omega) 4611686018427387904 (by decide)
  unfold wrap64; omega

set_option maxHeartbeats 400000 in
theorem signed_any (v n : Int) (w : World) (h0 : 0 ≤ v) (h1 : v < 4294967296) :
    Calls Try.prog 16 #[.int .u32 v, .int .i64 n] w (Ret (two .i64 .i64 (sgn v n)) w) := by
  by_cases hn : 1 ≤ n ∧ n ≤ 32
  · have hr : decide ((0:Int) ≤ 0 ∧ (0:Int) < 32 ∧ 1 ≤ n ∧ n ≤ 32 - 0) = true := by simp; omega
    obtain ⟨hn1, hn2⟩ := hn
    have ha := andNot_ones v n h0 h1 (by omega) (by omega)
    by_cases c1 : (2:Int) ^ n.toNat ≤ v
    · go_enter Try.func16, Try.ntmps16
      go_wp2_with (first | (go_at_call 24; refine (right_any _ _ _).mono ?_; rintro e w' ⟨rfl, rfl⟩) | (go_at_call 25; refine (ones_any _ _ (by omega) (by omega)).mono ?_; rintro e w' ⟨rfl, rfl⟩))
      go_ret2
      exact ret_two (sgn1 hn1 hn2 c1)
    · have hd := div_eq_one v (n.toNat - 1) (by rw [show n.toNat - 1 + 1 = n.toNat from by omega]; omega)
      have hw := wrap64_pow n (by omega)
      have hp := pow32 n hn2
      go_enter Try.func16, Try.ntmps16
      go_wp2_with (first | (go_at_call 24; refine (right_any _ _ _).mono ?_; rintro e w' ⟨rfl, rfl⟩) | (go_at_call 25; refine (ones_any _ _ (by omega) (by omega)).mono ?_; rintro e w' ⟨rfl, rfl⟩))
      · go_ret2
        exact ret_two (sgn2 hn1 hn2 (by assumption) (by assumption))
      · go_ret2
        exact ret_two (sgn3 hn1 hn2 (by assumption) (by assumption))
  · have hr : decide ((0:Int) ≤ 0 ∧ (0:Int) < 32 ∧ 1 ≤ n ∧ n ≤ 32 - 0) = false := by simp; omega
    go_enter Try.func16, Try.ntmps16
    go_wp2_with (first | (go_at_call 24; refine (right_any _ _ _).mono ?_; rintro e w' ⟨rfl, rfl⟩))
    go_ret2
    exact ret_two (sgn0 hn)

set_option maxHeartbeats 400000 in
theorem Power_any (n : Int) (w : World) (h : n ≤ 63) :
    Calls Try.prog 27 #[.int .i64 n] w (Ret (.int .u64 (2 ^ n.toNat)) w) := by
  go_enter Try.func27, Try.ntmps27
  go_wp2
  go_loop [3, 4] (fun p i => ∃ k : Nat, k ≤ n.toNat ∧ i = .int .i64 k ∧ p = .int .u64 (2 ^ k)) (fun _ i => n.toNat - (intOf i).toNat)
  case atStart => exact ⟨0, Nat.zero_le _, rfl, rfl⟩
  case round =>
    obtain ⟨k, hk, rfl, rfl⟩ := hrel
    by_cases hlt : (k : Int) < n
    · have hp := pow_le (k + 1) 63 (by omega) 9223372036854775808 (by decide)
      have e : IntKind.u64.wrap (2 * 2 ^ k) = 2 ^ (k + 1) := by
        rw [Int.pow_succ] at hp ⊢
        rw [IntKind.wrap_u64]; omega
      have E := Lib.hid e
      clear e hp
      go_wp2
      go_round
      case rel => exact ⟨k + 1, by omega, by go_num, by rw [E.out]⟩
      case measure => simp [intOf]; omega
    · go_wp2
      go_ret
      refine ret_int ?_
      rw [show n.toNat = k from by omega]

set_option maxHeartbeats 400000 in
theorem Small_any (v n : Int) (w : World) (h0 : 0 ≤ v) (h1 : v < 18446744073709551616) :
    Calls Try.prog 29 #[.int .u64 v, .int .i64 n] w (Ret (.bool (decide (64 ≤ n ∨ v < 2 ^ n.toNat))) w) := by
  by_cases h : 64 ≤ n
  · go_enter Try.func29, Try.ntmps29
    go_wp2
    go_ret
    exact ret_bool (by simp [h])
  · go_enter Try.func29, Try.ntmps29
    go_wp2_with (first | (go_at_call 27; refine (Power_any _ _ (by omega)).mono ?_; rintro e w' ⟨rfl, rfl⟩))
    go_ret
    exact ret_bool (by simp [h]; omega)

set_option maxHeartbeats 400000 in
theorem Bit_any (v n : Int) (w : World) (h0 : 0 ≤ v) (h1 : v < 18446744073709551616) (hn : n ≤ 63) :
    Calls Try.prog 30 #[.int .u64 v, .int .i64 n] w (Ret (.bool (v / 2 ^ n.toNat % 2 == 1)) w) := by
  have hp := pow63 n hn
  have hq : 0 ≤ v / 2 ^ n.toNat := Int.ediv_nonneg h0 (by omega)
  go_enter Try.func30, Try.ntmps30
  go_wp2_with (first | (go_at_call 27; refine (Power_any _ _ (by omega)).mono ?_; rintro e w' ⟨rfl, rfl⟩))
  go_ret
  exact ret_bool rfl

set_option maxHeartbeats 400000 in
theorem refSigned_any (v n : Int) (w : World) (h0 : 0 ≤ v) (h1 : v < 4294967296) :
    Calls Try.prog 17 #[.int .u32 v, .int .i64 n] w (Ret (two .i64 .i64 (sgn v n)) w) := by
  by_cases hn1 : n < 1
  · go_enter Try.func17, Try.ntmps17
    go_wp2
    go_ret2
    exact ret_two (sgn0 (by omega))
  by_cases hn2 : 32 < n
  · go_enter Try.func17, Try.ntmps17
    go_wp2
    go_ret2
    exact ret_two (sgn0 (by omega))
  have hp := pow32 n (by omega)
  by_cases c1 : (2:Int) ^ n.toNat ≤ v
  · have hs : decide (64 ≤ n ∨ v < 2 ^ n.toNat) = false := by simp; omega
    go_enter Try.func17, Try.ntmps17
    go_wp2_with (first | (go_at_call 29; refine (Small_any _ _ _ (by omega) (by omega)).mono ?_; rintro e w' ⟨rfl, rfl⟩))
    go_ret2
    exact ret_two (sgn1 (by omega) (by omega) c1)
  · have hs : decide (64 ≤ n ∨ v < 2 ^ n.toNat) = true := by simp; omega
    have hd := div_eq_one v (n.toNat - 1) (by rw [show n.toNat - 1 + 1 = n.toNat from by omega]; omega)
    have hd2 : (v / 2 ^ (n.toNat - 1) % 2 == 1) = decide ((2:Int) ^ (n.toNat - 1) ≤ v) := by
      have : v / 2 ^ (n.toNat - 1) < 2 := by
        apply (Int.ediv_lt_iff_lt_mul (by have := pow_pos' (n.toNat - 1); omega)).2
        have := pow_pred n (by omega); omega
      have : 0 ≤ v / 2 ^ (n.toNat - 1) := Int.ediv_nonneg h0 (by have := pow_pos' (n.toNat - 1); omega)
      rw [← hd, show v / 2 ^ (n.toNat - 1) % 2 = v / 2 ^ (n.toNat - 1) from by omega]
    clear hd
    have hw := wrap64_pow n (by omega)
    go_enter Try.func17, Try.ntmps17
    go_wp2_with (first | (go_at_call 29; refine (Small_any _ _ _ (by omega) (by omega)).mono ?_; rintro e w' ⟨rfl, rfl⟩) | (go_at_call 30; refine (Bit_any _ _ _ (by omega) (by omega) (by omega)).mono ?_; rintro e w' ⟨rfl, rfl⟩) | (go_at_call 27; refine (Power_any _ _ (by omega)).mono ?_; rintro e w' ⟨rfl, rfl⟩))
    · go_ret2
      exact ret_two (sgn2 (by omega) (by omega) (by omega) (by assumption))
    · go_ret2
      exact ret_two (sgn3 (by omega) (by omega) (by omega) (by assumption))


theorem mod_mod_pow (v : Int) (k : Nat) (h : k ≤ 32) : v % 4294967296 % 2 ^ k = v % 2 ^ k := by
  apply Int.emod_emod_of_dvd
  rw [show (4294967296 : Int) = 2 ^ k * 2 ^ (32 - k) from by rw [← Int.pow_add, show k + (32 - k) = 32 from by omega]; rfl]
  exact Int.dvd_mul_right _ _
theorem mod_neg_pow (v p : Int) (h : v < 0) (h2 : - p ≤ v) : v % (2 * p) = v + 2 * p := by
  rw [← Int.add_emod_right, Int.emod_eq_of_lt (by omega) (by omega)]

set_option maxHeartbeats 400000 in
theorem pack_any (v n : Int) (w : World) (h0 : -9223372036854775808 ≤ v) (h1 : v ≤ 9223372036854775807) :
    Calls Try.prog 18 #[.int .i64 v, .int .i64 n] w (Ret (two .u32 .i64 (pck v n)) w) := by
  by_cases hn : 1 ≤ n ∧ n ≤ 32
  · have hr : decide ((0:Int) ≤ 0 ∧ (0:Int) < 32 ∧ 1 ≤ n ∧ n ≤ 32 - 0) = true := by simp; omega
    obtain ⟨hn1, hn2⟩ := hn
    have hw := wrap64_pow (n - 1) (by omega)
    rw [show (n - 1).toNat = n.toNat - 1 from by omega] at hw
    have hp := pow_le (n.toNat - 1) 31 (by omega) 2147483648 (by decide)
    have ha : ∀ x, 0 ≤ x → x < 4294967296 → bits BinOp.and IntKind.u32 x (2 ^ n.toNat - 1) = x % 2 ^ n.toNat := fun x a b => and_ones32 x n a b (by omega) hn2
    have HA := Lib.hid ha
    clear ha
    go_enter Try.func18, Try.ntmps18
    go_wp2_with (first | (go_at_call 24; refine (right_any _ _ _).mono ?_; rintro e w' ⟨rfl, rfl⟩) | (go_at_call 25; refine (ones_any _ _ (by omega) (by omega)).mono ?_; rintro e w' ⟨rfl, rfl⟩))
    · go_ret2
      exact ret_two (pck1 hn1 hn2 (by omega))
    · go_ret2
      refine ret_two ?_
      rw [HA.out _ (by omega) (by omega), mod_mod_pow v n.toNat (by omega)]
      exact pck2 hn1 hn2 (by omega) (by omega)
    · go_ret2
      exact ret_two (pck1 hn1 hn2 (by omega))
  · have hr : decide ((0:Int) ≤ 0 ∧ (0:Int) < 32 ∧ 1 ≤ n ∧ n ≤ 32 - 0) = false := by simp; omega
    go_enter Try.func18, Try.ntmps18
    go_wp2_with (first | (go_at_call 24; refine (right_any _ _ _).mono ?_; rintro e w' ⟨rfl, rfl⟩))
    go_ret2
    exact ret_two (pck0 hn)

set_option maxHeartbeats 400000 in
theorem refPack_any (v n : Int) (w : World) (h0 : -9223372036854775808 ≤ v) (h1 : v ≤ 9223372036854775807) :
    Calls Try.prog 19 #[.int .i64 v, .int .i64 n] w (Ret (two .u32 .i64 (pck v n)) w) := by
  by_cases hn1 : n < 1
  · go_enter Try.func19, Try.ntmps19
    go_wp2
    go_ret2
    exact ret_two (pck0 (by omega))
  by_cases hn2 : 32 < n
  · go_enter Try.func19, Try.ntmps19
    go_wp2
    go_ret2
    exact ret_two (pck0 (by omega))
  have hp := pow_le (n.toNat - 1) 31 (by omega) 2147483648 (by decide)
  have hw := wrap64_pow (n - 1) (by omega)
  go_enter Try.func19, Try.ntmps19
  go_wp2_with (first | (go_at_call 27; refine (Power_any _ _ (by omega)).mono ?_; rintro e w' ⟨rfl, rfl⟩))
  · go_ret2
    exact ret_two (pck1 (by omega) hn2 (by omega))
  · go_ret2
    refine ret_two ?_
    rw [pck2 (by omega) hn2 (by omega) (by omega), pow_pred n (by omega), mod_neg_pow v _ (by omega) (by omega)]
  · go_ret2
    refine ret_two ?_
    rw [pck2 (by omega) hn2 (by omega) (by omega), pow_pred n (by omega), Int.emod_eq_of_lt (by omega) (by omega)]
  · go_ret2
    exact ret_two (pck1 (by omega) hn2 (by omega))


def low (v n : Int) : Int := if n ≤ 0 then 0 else if 64 ≤ n then v else v % 2 ^ n.toNat
set_option maxHeartbeats 400000 in
theorem low_any (v n : Int) (w : World) (h0 : 0 ≤ v) (h1 : v < 18446744073709551616) :
    Calls Try.prog 22 #[.int .u64 v, .int .i64 n] w (Ret (.int .u64 (low v n)) w) := by
  by_cases c1 : n ≤ 0
  · go_enter Try.func22, Try.ntmps22
    go_wp2
    go_ret
    exact ret_int (by simp [low, c1])
  by_cases c2 : 64 ≤ n
  · go_enter Try.func22, Try.ntmps22
    go_wp2
    go_ret
    refine ret_int ?_
    unfold low; rw [if_neg (by omega), if_pos (by omega)]
  have ha := and_ones64 v n h0 h1 (by omega) (by omega)
  have hb := wrap_ones n (by omega)
  rw [← hb] at ha
  have HA := Lib.hid ha
  clear ha hb
  go_enter Try.func22, Try.ntmps22
  go_wp2
  go_ret
  refine ret_int ?_
  rw [HA.out]; unfold low; rw [if_neg (by omega), if_neg (by omega)]

set_option maxHeartbeats 400000 in
theorem refLow_any (v n : Int) (w : World) (h0 : 0 ≤ v) (h1 : v < 18446744073709551616) :
    Calls Try.prog 23 #[.int .u64 v, .int .i64 n] w (Ret (.int .u64 (low v n)) w) := by
  by_cases c1 : n ≤ 0
  · go_enter Try.func23, Try.ntmps23
    go_wp2
    go_ret
    exact ret_int (by simp [low, c1])
  by_cases c2 : 64 ≤ n
  · go_enter Try.func23, Try.ntmps23
    go_wp2
    go_ret
    refine ret_int ?_
    unfold low; rw [if_neg (by omega), if_pos (by omega)]
  have hp := pow63 n (by omega)
  go_enter Try.func23, Try.ntmps23
  go_wp2_with (first | (go_at_call 27; refine (Power_any _ _ (by omega)).mono ?_; rintro e w' ⟨rfl, rfl⟩))
  go_ret
  refine ret_int ?_
  unfold low; rw [if_neg (by omega), if_neg (by omega)]

def isSz (n : Int) : Bool := n == 2 || n == 4 || n == 8 || n == 16 || n == 32 || n == 64
set_option maxHeartbeats 400000 in
theorem isSize_any (n : Int) (w : World) :
    Calls Try.prog 31 #[.int .i64 n] w (Ret (.bool (isSz n)) w) := by
  go_enter Try.func31, Try.ntmps31
  go_wp2
  go_loop [4] (fun i => ∃ k : Nat, k ≤ 6 ∧ i = .int .i64 k ∧ ∀ j, j < k → n ≠ 2 * 2 ^ j) (fun i => 6 - (intOf i).toNat)
  case atStart => exact ⟨0, by omega, rfl, by omega⟩
  case round =>
    obtain ⟨k, hk, rfl, hn⟩ := hrel
    have HN := Lib.hid hn
    clear hn
    by_cases hlt : (k : Int) < 6
    · have hw : wrap64 (2 * 2 ^ k) = 2 * 2 ^ k := by
        have := pow_le k 5 (by omega) 32 (by decide)
        unfold wrap64; omega
      by_cases he : n = 2 * 2 ^ k
      · have hb : (n == 2 * 2 ^ k) = true := by simpa using he
        have HE := Lib.hid he
        clear he
        go_wp2
        go_ret
        refine ret_bool ?_
        have h6 : k = 0 ∨ k = 1 ∨ k = 2 ∨ k = 3 ∨ k = 4 ∨ k = 5 := by omega
        rw [HE.out]
        rcases h6 with rfl | rfl | rfl | rfl | rfl | rfl <;> rfl
      · have hb : (n == 2 * 2 ^ k) = false := by simpa using he
        have HE := Lib.hid he
        clear he
        go_wp2
        go_round
        case rel => exact ⟨k + 1, by omega, by go_num, fun j hj => if h : j = k then h ▸ HE.out else HN.out j (by omega)⟩
        case measure => simp [intOf]; omega
    · go_wp2
      go_ret
      refine ret_bool ?_
      obtain rfl : k = 6 := by omega
      have h0 := HN.out 0 (by omega)
      have h1 := HN.out 1 (by omega)
      have h2 := HN.out 2 (by omega)
      have h3 := HN.out 3 (by omega)
      have h4 := HN.out 4 (by omega)
      have h5 := HN.out 5 (by omega)
      simp only [Int.reducePow, Int.reduceMul] at h0 h1 h2 h3 h4 h5
      simp [isSz, h0, h1, h2, h3, h4, h5]

end Go.Proofs.Ytpneegmggoebhaa
