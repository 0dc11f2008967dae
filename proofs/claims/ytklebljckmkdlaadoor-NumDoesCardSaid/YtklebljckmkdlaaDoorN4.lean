/- num.Signed, num.Of, num.Sum, and the reference's. -/
import Derived.Test.YtklebljckmkdlaaDoorN3
namespace Go.Proofs.YtklebljckmkdlaaDoor
set_option linter.unusedVariables false
set_option linter.unusedSimpArgs false
open Go.RowKit

theorem ret_bi {k : IntKind} {x : Bool} {a b : Int} {w : World} (h : a = b) : Ret (.tuple #[.bool x, .int k b]) w (.returned (.tuple #[.bool x, .int k a])) w := by subst h; exact ⟨rfl, rfl⟩
theorem signS1 {v : Int} (h : v ≤ 9223372036854775808) : signS true v = (-v, 0) := by unfold signS; rw [if_pos rfl, if_pos h]
theorem signS2 {v : Int} (h : ¬ v ≤ 9223372036854775808) : signS true v = (0, 4) := by unfold signS; rw [if_pos rfl, if_neg h]
theorem signS3 {v : Int} (h : v ≤ 9223372036854775807) : signS false v = (v, 0) := by unfold signS; rw [if_neg (by decide), if_pos h]
theorem signS4 {v : Int} (h : ¬ v ≤ 9223372036854775807) : signS false v = (0, 4) := by unfold signS; rw [if_neg (by decide), if_neg h]
theorem neg_wrap {v : Int} (h0 : 0 ≤ v) (h : v ≤ 9223372036854775808) : IntKind.i64.wrap (IntKind.u64.wrap (-v)) = -v := by rw [IntKind.wrap_u64, IntKind.wrap_i64]; omega

set_option maxHeartbeats 1000000 in
theorem Signed_any (m : Bool) (v : Int) (w : World) (h0 : 0 ≤ v) (h1 : v < 18446744073709551616) :
    Calls Tryd.prog 10 #[.bool m, .int .u64 v] w (Ret (two .i64 .i64 (signS m v)) w) := by
  cases m
  · by_cases c : v ≤ 9223372036854775807
    · have H := Lib.hid (signS3 c)
      go_enter Tryd.func10, Tryd.ntmps10
      go_wp2
      go_ret2
      exact ret_two H.out
    · have H := Lib.hid (signS4 c)
      go_enter Tryd.func10, Tryd.ntmps10
      go_wp2
      go_ret2
      exact ret_two H.out
  · by_cases c : v ≤ 9223372036854775808
    · have H := Lib.hid (signS1 c)
      have HW := Lib.hid (neg_wrap h0 c)
      go_enter Tryd.func10, Tryd.ntmps10
      go_wp2
      go_ret2
      exact ret_two (H.out.trans (by first | rfl | rw [HW.out] | (congr 1; unfold wrap64; rw [IntKind.wrap_u64]; omega) | (congr 1; unfold wrap64; omega)))
    · have H := Lib.hid (signS2 c)
      go_enter Tryd.func10, Tryd.ntmps10
      go_wp2
      go_ret2
      exact ret_two H.out
set_option maxHeartbeats 1000000 in
theorem refSigned_any (m : Bool) (v : Int) (w : World) (h0 : 0 ≤ v) (h1 : v < 18446744073709551616) :
    Calls Tryd.prog 11 #[.bool m, .int .u64 v] w (Ret (two .i64 .i64 (signS m v)) w) := by
  cases m
  · by_cases c : v ≤ 9223372036854775807
    · have H := Lib.hid (signS3 c)
      go_enter Tryd.func11, Tryd.ntmps11
      go_wp2
      go_ret2
      exact ret_two H.out
    · have H := Lib.hid (signS4 c)
      go_enter Tryd.func11, Tryd.ntmps11
      go_wp2
      go_ret2
      exact ret_two H.out
  · by_cases c : v ≤ 9223372036854775807
    · have H := Lib.hid (signS1 (v := v) (by omega))
      go_enter Tryd.func11, Tryd.ntmps11
      go_wp2
      go_ret2
      exact ret_two (H.out.trans (by first | rfl | (congr 1 <;> omega)))
    · by_cases c2 : v = 9223372036854775808
      · subst c2
        have H := Lib.hid (signS1 (v := 9223372036854775808) (by omega))
        go_enter Tryd.func11, Tryd.ntmps11
        go_wp2
        go_ret2
        exact ret_two H.out
      · have H := Lib.hid (signS2 (v := v) (by omega))
        have q : (v == 9223372036854775808) = false := by rw [beq_eq_false_iff_ne]; exact c2
        clear c2
        go_enter Tryd.func11, Tryd.ntmps11
        go_wp2
        go_ret2
        exact ret_two H.out
theorem farS1 {n : Int} (h : n < 0) : farS n = -n := by unfold farS; rw [if_pos h]
theorem farS2 {n : Int} (h : ¬ n < 0) : farS n = n := by unfold farS; rw [if_neg h]
theorem neg_u64 {n : Int} (h : n < 0) (h0 : -9223372036854775808 ≤ n) : IntKind.u64.wrap (-IntKind.u64.wrap n) = -n := by rw [IntKind.wrap_u64, IntKind.wrap_u64]; omega
set_option maxHeartbeats 1000000 in
theorem Of_any (n : Int) (w : World) (h0 : -9223372036854775808 ≤ n) (h1 : n ≤ 9223372036854775807) :
    Calls Tryd.prog 12 #[.int .i64 n] w (Ret (.tuple #[.bool (decide (n < 0)), .int .u64 (farS n)]) w) := by
  by_cases c : n < 0
  · rw [decide_eq_true c, farS1 c]
    have HW := Lib.hid (neg_u64 c h0)
    go_enter Tryd.func12, Tryd.ntmps12
    go_wp2
    go_ret2
    exact ret_bi (by first | rfl | rw [HW.out] | (simp only [IntKind.wrap_u64]; omega))
  · rw [decide_eq_false c, farS2 c]
    go_enter Tryd.func12, Tryd.ntmps12
    go_wp2
    go_ret2
    exact ret_bi (by first | rfl | (simp only [IntKind.wrap_u64]; omega))
set_option maxHeartbeats 1000000 in
theorem refOf_any (n : Int) (w : World) (h0 : -9223372036854775808 ≤ n) (h1 : n ≤ 9223372036854775807) :
    Calls Tryd.prog 13 #[.int .i64 n] w (Ret (.tuple #[.bool (decide (n < 0)), .int .u64 (farS n)]) w) := by
  by_cases c : n < 0
  · rw [decide_eq_true c, farS1 c]
    by_cases c2 : n = -9223372036854775808
    · subst c2
      go_enter Tryd.func13, Tryd.ntmps13
      go_wp2
      go_ret2
      exact ret_bi rfl
    · have q : (n == -9223372036854775808) = false := by rw [beq_eq_false_iff_ne]; exact c2
      have hlo : -9223372036854775807 ≤ n := by omega
      clear c2
      go_enter Tryd.func13, Tryd.ntmps13
      go_wp2
      go_ret2
      exact ret_bi (by first | rfl | (simp only [IntKind.wrap_u64]; omega))
  · rw [decide_eq_false c, farS2 c]
    go_enter Tryd.func13, Tryd.ntmps13
    go_wp2
    go_ret2
    exact ret_bi (by first | rfl | (simp only [IntKind.wrap_u64]; omega))
theorem sumS1 {a n : Int} (h : 0 ≤ a + n ∧ a + n ≤ 18446744073709551615) : sumS a n = (a + n, 0) := by unfold sumS; rw [if_pos h]
theorem sumS2 {a n : Int} (h : ¬ (0 ≤ a + n ∧ a + n ≤ 18446744073709551615)) : sumS a n = (0, 4) := by unfold sumS; rw [if_neg h]
set_option maxHeartbeats 1000000 in
theorem Sum_any (a n : Int) (w : World) (ha : 0 ≤ a) (ha1 : a < 18446744073709551616) (h0 : -9223372036854775808 ≤ n) (h1 : n ≤ 9223372036854775807) :
    Calls Tryd.prog 14 #[.int .u64 a, .int .i64 n] w (Ret (two .u64 .i64 (sumS a n)) w) := by
  have HO : Hid (∀ w, Calls Tryd.prog 12 #[.int .i64 n] w (Ret (.tuple #[.bool (decide (n < 0)), .int .u64 (farS n)]) w)) := Lib.hid fun w => Of_any n w h0 h1
  by_cases c : n < 0
  · rw [decide_eq_true c, farS1 c] at HO
    obtain ⟨f, hf, HO⟩ : ∃ f : Int, f = -n ∧ Hid (∀ w, Calls Tryd.prog 12 #[.int .i64 n] w (Ret (.tuple #[.bool true, .int .u64 f]) w)) := ⟨_, rfl, HO⟩
    have hf0 : 0 ≤ f := by omega
    have hf1 : f ≤ 9223372036854775808 := by omega
    by_cases c2 : f > a
    · have H := Lib.hid (sumS2 (a := a) (n := n) (by omega))
      clear hf
      go_enter Tryd.func14, Tryd.ntmps14
      go_wp2_with (first | (go_at_call 12; ((with_reducible refine (HO.out _).mono ?_); rintro e w' ⟨rfl, rfl⟩)))
      go_ret2
      exact ret_two H.out
    · have H : Hid (sumS a n = (a - f, 0)) := Lib.hid (by rw [sumS1 (by omega)]; congr 1; omega)
      clear hf
      go_enter Tryd.func14, Tryd.ntmps14
      go_wp2_with (first | (go_at_call 12; ((with_reducible refine (HO.out _).mono ?_); rintro e w' ⟨rfl, rfl⟩)))
      go_ret2
      exact ret_two H.out
  · rw [decide_eq_false c, farS2 c] at HO
    obtain ⟨x, rfl⟩ := Int.eq_ofNat_of_zero_le ha
    obtain ⟨y, rfl⟩ := Int.eq_ofNat_of_zero_le (show 0 ≤ n by omega)
    by_cases c2 : x + y < 18446744073709551616
    · have H : Hid (sumS (x : Int) (y : Int) = (((x + y : Nat) : Int), 0)) := Lib.hid (by rw [sumS1 (by omega)]; congr 1)
      have hadd : ∀ w, (callFunc 24 #[.int .u64 x, .int .u64 y, .int .u64 0]).run Tryd.prog w = .ok (.value (.tuple #[.int .u64 ((x + y : Nat) : Int), .int .u64 0])) w := fun w => by
        have h := add_at x y w
        rw [Nat.div_eq_of_lt c2, Nat.mod_eq_of_lt c2] at h
        exact h
      generalize x + y = q at *
      go_enter Tryd.func14, Tryd.ntmps14
      go_wp2_with (first | (go_at_call 12; ((with_reducible refine (HO.out _).mono ?_); rintro e w' ⟨rfl, rfl⟩)))
      go_ret2
      exact ret_two H.out
    · have H := Lib.hid (sumS2 (a := (x : Int)) (n := (y : Int)) (by omega))
      have h1 : (x + y) / 18446744073709551616 = 1 := by omega
      have hadd : ∀ w, (callFunc 24 #[.int .u64 x, .int .u64 y, .int .u64 0]).run Tryd.prog w = .ok (.value (.tuple #[.int .u64 (((x + y) % 18446744073709551616 : Nat) : Int), .int .u64 1])) w := fun w => by
        have h := add_at x y w
        rw [h1] at h
        exact h
      generalize (x + y) % 18446744073709551616 = q at *
      clear h1 c2
      go_enter Tryd.func14, Tryd.ntmps14
      go_wp2_with (first | (go_at_call 12; ((with_reducible refine (HO.out _).mono ?_); rintro e w' ⟨rfl, rfl⟩)))
      go_ret2
      exact ret_two H.out
set_option maxHeartbeats 1000000 in
theorem refSum_any (a n : Int) (w : World) (ha : 0 ≤ a) (ha1 : a < 18446744073709551616) (h0 : -9223372036854775808 ≤ n) (h1 : n ≤ 9223372036854775807) :
    Calls Tryd.prog 15 #[.int .u64 a, .int .i64 n] w (Ret (two .u64 .i64 (sumS a n)) w) := by
  have HO : Hid (∀ w, Calls Tryd.prog 13 #[.int .i64 n] w (Ret (.tuple #[.bool (decide (n < 0)), .int .u64 (farS n)]) w)) := Lib.hid fun w => refOf_any n w h0 h1
  by_cases c : n < 0
  · rw [decide_eq_true c, farS1 c] at HO
    obtain ⟨f, hf, HO⟩ : ∃ f : Int, f = -n ∧ Hid (∀ w, Calls Tryd.prog 13 #[.int .i64 n] w (Ret (.tuple #[.bool true, .int .u64 f]) w)) := ⟨_, rfl, HO⟩
    have hf0 : 0 ≤ f := by omega
    have hf1 : f ≤ 9223372036854775808 := by omega
    by_cases c2 : a < f
    · have H := Lib.hid (sumS2 (a := a) (n := n) (by omega))
      clear hf
      go_enter Tryd.func15, Tryd.ntmps15
      go_wp2_with (first | (go_at_call 13; ((with_reducible refine (HO.out _).mono ?_); rintro e w' ⟨rfl, rfl⟩)))
      go_ret2
      exact ret_two H.out
    · have H : Hid (sumS a n = (a - f, 0)) := Lib.hid (by rw [sumS1 (by omega)]; congr 1; omega)
      clear hf
      go_enter Tryd.func15, Tryd.ntmps15
      go_wp2_with (first | (go_at_call 13; ((with_reducible refine (HO.out _).mono ?_); rintro e w' ⟨rfl, rfl⟩)))
      go_ret2
      exact ret_two H.out
  · rw [decide_eq_false c, farS2 c] at HO
    by_cases c2 : 18446744073709551615 - a < n
    · have H := Lib.hid (sumS2 (a := a) (n := n) (by omega))
      go_enter Tryd.func15, Tryd.ntmps15
      go_wp2_with (first | (go_at_call 13; ((with_reducible refine (HO.out _).mono ?_); rintro e w' ⟨rfl, rfl⟩)))
      go_ret2
      exact ret_two H.out
    · have H : Hid (sumS a n = (a + n, 0)) := Lib.hid (sumS1 (by omega))
      have hb : a + n < 18446744073709551616 := by omega
      go_enter Tryd.func15, Tryd.ntmps15
      go_wp2_with (first | (go_at_call 13; ((with_reducible refine (HO.out _).mono ?_); rintro e w' ⟨rfl, rfl⟩)))
      go_ret2
      exact ret_two H.out
end Go.Proofs.YtklebljckmkdlaaDoor
