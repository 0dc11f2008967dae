/- What the small functions of place and of its reference answer (Up, Far, Near, Good), for every input. -/
import Derived.Test.YtpjidjanhonikaaS
import Derived.Test.YtpjidjanhonikaaM0
namespace Go.Proofs.Ytpjidjanhonikaa
set_option linter.unusedVariables false
set_option linter.unusedSimpArgs false
open Go.RowKit

def upS (a n : Int) : Int × Int := if n < 0 ∨ 12 < n then (0, 1) else if 9223372036854775808 < a then (0, 4) else ((a + (2 ^ n.toNat - 1)) / 2 ^ n.toNat * 2 ^ n.toNat, 0)
theorem upS0 {a n : Int} (h : n < 0 ∨ 12 < n) : upS a n = (0, 1) := if_pos h
theorem upS1 {a n : Int} (h1 : 0 ≤ n) (h2 : n ≤ 12) (h : 9223372036854775808 < a) : upS a n = (0, 4) := by unfold upS; rw [if_neg (by omega), if_pos h]
theorem upS2 {a n : Int} (h1 : 0 ≤ n) (h2 : n ≤ 12) (h : a ≤ 9223372036854775808) : upS a n = ((a + (2 ^ n.toNat - 1)) / 2 ^ n.toNat * 2 ^ n.toNat, 0) := by unfold upS; rw [if_neg (by omega), if_neg (by omega)]
theorem pow12 (n : Int) (h : n ≤ 12) : 1 ≤ (2 : Int) ^ n.toNat ∧ (2 : Int) ^ n.toNat ≤ 4096 := pow_le _ 12 (by omega) _ (by decide)
theorem andNot_ones64 (v n : Int) (h0 : 0 ≤ v) (h1 : v < 18446744073709551616) (hn : 0 ≤ n) (hn' : n ≤ 63) :
    bits BinOp.andNot IntKind.u64 v (2 ^ n.toNat - 1) = v / 2 ^ n.toNat * 2 ^ n.toNat := by
  obtain ⟨k, rfl⟩ := Int.eq_ofNat_of_zero_le hn
  obtain ⟨v, rfl⟩ := Int.eq_ofNat_of_zero_le h0
  rw [Int.toNat_natCast]
  have hp := pow_le k 63 (by omega) 9223372036854775808 (by decide)
  have e : ((2 : Int) ^ k - 1) = ((2 ^ k - 1 : Nat) : Int) := by
    have := Nat.one_le_two_pow (n := k)
    rw [Int.ofNat_sub this, pow_cast]; rfl
  have e2 : 2 ^ k ≤ 2 ^ 63 := Nat.pow_le_pow_right (by decide) (by omega)
  rw [e, u64_andNot_nat _ _ (by omega) (by omega)]
  have := and_compl v k 64 (by omega) (by omega)
  simp only [show (18446744073709551615 : Nat) = 2 ^ 64 - 1 from rfl, this]
  rw [← pow_cast]; rfl
theorem up_facts (a n : Int) (h0 : 0 ≤ a) (h1 : a ≤ 9223372036854775808) (n0 : 0 ≤ n) (n1 : n ≤ 12) :
    a ≤ (a + (2 ^ n.toNat - 1)) / 2 ^ n.toNat * 2 ^ n.toNat ∧ (a + (2 ^ n.toNat - 1)) / 2 ^ n.toNat * 2 ^ n.toNat < a + 2 ^ n.toNat ∧ (a + (2 ^ n.toNat - 1)) / 2 ^ n.toNat * 2 ^ n.toNat % 2 ^ n.toNat = 0 := by
  have hp := pow12 n n1
  generalize (2 : Int) ^ n.toNat = p at hp ⊢
  have e := Int.emod_add_mul_ediv (a + (p - 1)) p
  have e1 := Int.emod_nonneg (a + (p - 1)) (show p ≠ 0 by omega)
  have e2 := Int.emod_lt_of_pos (a + (p - 1)) (show 0 < p by omega)
  rw [Int.mul_comm ((a + (p - 1)) / p) p]
  refine ⟨by omega, by omega, Int.mul_emod_right _ _⟩

set_option maxHeartbeats 400000 in
theorem up_any (a n : Int) (w : World) (h0 : 0 ≤ a) (h1 : a < 18446744073709551616) :
    Calls Try.prog 10 #[.int .u64 a, .int .i64 n] w (Ret (two .u64 .i64 (upS a n)) w) := by
  by_cases c1 : n < 0
  · go_enter Try.func10, Try.ntmps10
    go_wp2
    go_ret2
    exact ret_two (upS0 (by omega))
  by_cases c2 : 12 < n
  · go_enter Try.func10, Try.ntmps10
    go_wp2
    go_ret2
    exact ret_two (upS0 (by omega))
  by_cases c3 : 9223372036854775808 < a
  · go_enter Try.func10, Try.ntmps10
    go_wp2
    go_ret2
    exact ret_two (upS1 (by omega) (by omega) c3)
  have hp := pow12 n (by omega)
  have hw : IntKind.u64.wrap (2 ^ n.toNat) = 2 ^ n.toNat := by rw [IntKind.wrap_u64]; omega
  have ha := andNot_ones64 (a + (2 ^ n.toNat - 1)) n (by omega) (by omega) (by omega) (by omega)
  have H := Lib.hid (upS2 (a := a) (n := n) (by omega) (by omega) (by omega))
  go_enter Try.func10, Try.ntmps10
  go_wp2
  go_ret2
  exact ret_two H.out

set_option maxHeartbeats 400000 in
theorem Power_any (n : Int) (w : World) (h : n ≤ 63) :
    Calls Try.prog 22 #[.int .i64 n] w (Ret (.int .u64 (2 ^ n.toNat)) w) := by
  go_enter Try.func22, Try.ntmps22
  go_wp2
  go_loop [3, 4] (fun p i => ∃ k : Nat, k ≤ n.toNat ∧ i = .int .i64 k ∧ p = .int .u64 (2 ^ k)) (fun _ i => n.toNat - (intOf i).toNat)
  case atStart => exact ⟨0, Nat.zero_le _, rfl, rfl⟩
  case round =>
    obtain ⟨k, hk, rfl, rfl⟩ := hrel
    by_cases hlt : (k : Int) < n
    · have hp := pow_le (k + 1) 63 (by omega) 9223372036854775808 (by decide)
      have e : IntKind.u64.wrap (2 * 2 ^ k) = 2 ^ (k + 1) := by
        rw [Int.pow_succ] at hp ⊢
        rw [IntKind.wrap_u64]; omega
      have E := Lib.hid e
      clear e hp
      go_wp2
      go_round
      case rel => exact ⟨k + 1, by omega, by go_num, by rw [E.out]⟩
      case measure => simp [intOf]; omega
    · go_wp2
      go_ret
      refine ret_int ?_
      rw [show n.toNat = k from by omega]

theorem not_mult (k u p : Int) (hp : 0 < p) (hu : u % p = 0) : u - p < k → k < u → k % p ≠ 0 := by
  intro h1 h2 h3
  have e1 := Int.emod_add_mul_ediv u p
  have e2 := Int.emod_add_mul_ediv k p
  rw [hu] at e1
  rw [h3] at e2
  generalize u / p = x at e1
  generalize k / p = y at e2
  have h4 : p * y < p * x := by omega
  have h5 : y < x := Int.lt_of_mul_lt_mul_left h4 (by omega)
  have h6 : p * (y + 1) ≤ p * x := Int.mul_le_mul_of_nonneg_left (by omega) (by omega)
  rw [Int.mul_add] at h6
  omega

set_option maxHeartbeats 400000 in
theorem refUp_any (a n : Int) (w : World) (h0 : 0 ≤ a) (h1 : a < 18446744073709551616) :
    Calls Try.prog 11 #[.int .u64 a, .int .i64 n] w (Ret (two .u64 .i64 (upS a n)) w) := by
  by_cases c1 : n < 0
  · go_enter Try.func11, Try.ntmps11
    go_wp2
    go_ret2
    exact ret_two (upS0 (by omega))
  by_cases c2 : 12 < n
  · go_enter Try.func11, Try.ntmps11
    go_wp2
    go_ret2
    exact ret_two (upS0 (by omega))
  by_cases c3 : 9223372036854775808 < a
  · go_enter Try.func11, Try.ntmps11
    go_wp2
    go_ret2
    exact ret_two (upS1 (by omega) (by omega) c3)
  have hp := pow12 n (by omega)
  have H := Lib.hid (upS2 (a := a) (n := n) (by omega) (by omega) (by omega))
  obtain ⟨u, hu⟩ : ∃ u, u = (a + (2 ^ n.toNat - 1)) / 2 ^ n.toNat * 2 ^ n.toNat := ⟨_, rfl⟩
  have hf := up_facts a n h0 (by omega) (by omega) (by omega)
  rw [← hu] at hf
  have HU := Lib.hid hu
  clear hu
  have HF := Lib.hid hf.2.2
  obtain ⟨f1, f2, -⟩ := hf
  go_enter Try.func11, Try.ntmps11
  go_wp2_with (go_at_call 22; refine (Power_any _ _ (by omega)).mono ?_; rintro e w' ⟨rfl, rfl⟩)
  go_loop [0] (fun x => ∃ k : Int, a ≤ k ∧ k ≤ u ∧ x = .int .u64 k) (fun x => (u - intOf x).toNat)
  case atStart => exact ⟨a, by omega, f1, rfl⟩
  case round =>
    obtain ⟨k, k1, k2, rfl⟩ := hrel
    have hne := not_mult k u (2 ^ n.toNat) (by omega) HF.out
    by_cases hk : k = u
    · have hz : (k % 2 ^ n.toNat != 0) = false := by rw [hk, HF.out]; rfl
      have HK := Lib.hid hk
      clear hk hne
      go_wp2
      go_ret2
      refine ret_two ?_
      rw [HK.out, HU.out]; exact H.out
    · have hz : (k % 2 ^ n.toNat != 0) = true := by rw [bne_iff_ne]; exact hne (by omega) (by omega)
      have hlt : k < u := by omega
      clear hk hne
      go_wp2
      go_round
      case rel => exact ⟨k + 1, by omega, by omega, rfl⟩
      case measure => simp [intOf]; omega

set_option maxHeartbeats 400000 in
theorem far_any (f t : Int) (w : World) (f0 : 0 ≤ f) (f1 : f < 18446744073709551616) (t0 : 0 ≤ t) (t1 : t < 18446744073709551616) :
    Calls Try.prog 18 #[.int .u64 f, .int .u64 t] w (Ret (.int .i64 (wrap64 (t - f))) w) := by
  go_enter Try.func18, Try.ntmps18
  go_wp2
  go_ret
  refine ret_int ?_
  simp only [IntKind.wrap_u64]; unfold wrap64; omega
set_option maxHeartbeats 400000 in
theorem refFar_any (f t : Int) (w : World) (f0 : 0 ≤ f) (f1 : f < 18446744073709551616) (t0 : 0 ≤ t) (t1 : t < 18446744073709551616) :
    Calls Try.prog 19 #[.int .u64 f, .int .u64 t] w (Ret (.int .i64 (wrap64 (t - f))) w) := by
  go_enter Try.func19, Try.ntmps19
  go_wp2
  all_goals
    go_ret
    refine ret_int ?_
    simp only [IntKind.wrap_u64] at *; unfold wrap64; omega
def nearB (f t r : Int) : Bool := decide (0 ≤ r ∧ -r ≤ wrap64 (t - f) ∧ wrap64 (t - f) ≤ r - 4)
theorem wrap64_bd (x : Int) : -9223372036854775808 ≤ wrap64 x ∧ wrap64 x ≤ 9223372036854775807 := by unfold wrap64; omega
set_option maxHeartbeats 400000 in
theorem near_any (f t r : Int) (w : World) (f0 : 0 ≤ f) (f1 : f < 18446744073709551616) (t0 : 0 ≤ t) (t1 : t < 18446744073709551616) (r0 : -9223372036854775808 ≤ r) (r1 : r ≤ 9223372036854775807) :
    Calls Try.prog 20 #[.int .u64 f, .int .u64 t, .int .i64 r] w (Ret (.bool (nearB f t r)) w) := by
  obtain ⟨d, hd⟩ : ∃ d, d = wrap64 (t - f) := ⟨_, rfl⟩
  have hb := wrap64_bd (t - f)
  have hn : nearB f t r = decide (0 ≤ r ∧ -r ≤ d ∧ d ≤ r - 4) := by rw [hd]; rfl
  have HF := Lib.hid (far_any f t w f0 f1 t0 t1)
  rw [← hd] at HF hb
  have HN := Lib.hid hn
  clear hd hn
  go_enter Try.func20, Try.ntmps20
  go_wp2_with (go_at_call 18; refine (HF.out).mono ?_; rintro e w' ⟨rfl, rfl⟩)
  all_goals
    go_ret
    refine ret_bool ?_
    rw [HN.out]
    first | (rw [Bool.eq_iff_iff]; simp; omega) | (simp; omega)
set_option maxHeartbeats 400000 in
theorem refNear_any (f t r : Int) (w : World) (f0 : 0 ≤ f) (f1 : f < 18446744073709551616) (t0 : 0 ≤ t) (t1 : t < 18446744073709551616) (r0 : -9223372036854775808 ≤ r) (r1 : r ≤ 9223372036854775807) :
    Calls Try.prog 21 #[.int .u64 f, .int .u64 t, .int .i64 r] w (Ret (.bool (nearB f t r)) w) := by
  obtain ⟨d, hd⟩ : ∃ d, d = wrap64 (t - f) := ⟨_, rfl⟩
  have hb := wrap64_bd (t - f)
  have hn : nearB f t r = decide (0 ≤ r ∧ -r ≤ d ∧ d ≤ r - 4) := by rw [hd]; rfl
  have HF := Lib.hid (refFar_any f t w f0 f1 t0 t1)
  rw [← hd] at HF hb
  have HN := Lib.hid hn
  clear hd hn
  go_enter Try.func21, Try.ntmps21
  go_wp2_with (go_at_call 19; refine (HF.out).mono ?_; rintro e w' ⟨rfl, rfl⟩)
  all_goals
    go_ret
    refine ret_bool ?_
    rw [HN.out]
    first | (rw [Bool.eq_iff_iff]; simp; omega) | (simp; omega)

def evB (a : Int) : Bool := decide (a % 4096 = 0 ∧ a ≤ 2305843009213693952)
def apB (a b : Int) : Bool := decide (16777216 ≤ a - b ∨ 16777216 ≤ b - a)
def goodB (t d s r : Int) : Bool := (evB t && (evB d && evB s)) && (apB t d && (apB t s && apB d s)) && decide (r % 4 = 0 ∧ 8192 ≤ r ∧ r ≤ 134217724)
set_option maxHeartbeats 400000 in
theorem even_any (a : Int) (w : World) (a0 : 0 ≤ a) (a1 : a < 18446744073709551616) :
    Calls Try.prog 24 #[.int .u64 a] w (Ret (.bool (evB a)) w) := by
  go_enter Try.func24, Try.ntmps24
  go_wp2
  all_goals
    go_ret
    refine ret_bool ?_
    unfold evB
    first | (rw [Bool.eq_iff_iff]; simp at *; omega) | (simp at *; omega)
set_option maxHeartbeats 400000 in
theorem apart_any (a b : Int) (w : World) (a0 : 0 ≤ a) (a1 : a < 18446744073709551616) (b0 : 0 ≤ b) (b1 : b < 18446744073709551616) :
    Calls Try.prog 25 #[.int .u64 a, .int .u64 b] w (Ret (.bool (apB a b)) w) := by
  go_enter Try.func25, Try.ntmps25
  go_wp2
  all_goals
    go_ret
    refine ret_bool ?_
    unfold apB
    first | (rw [Bool.eq_iff_iff]; simp at *; omega) | (simp at *; omega)
end Go.Proofs.Ytpjidjanhonikaa
