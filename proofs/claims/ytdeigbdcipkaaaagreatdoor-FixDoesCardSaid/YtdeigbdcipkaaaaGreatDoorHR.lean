/- The reference of layer 26: Far, number, step, within, Value. The reference of layer 26: Fits. The reference of layer 26: Size, Bytes, Number. The reference of layer 26: Word, Apply, Goal. The reference of layer 26: Goal; the law FixDoes. The law FixDoes, walked. -/
import Derived.Test.YtdeigbdcipkaaaaGreatDoorHA
import Derived.Test.YtdeigbdcipkaaaaGreatDoorFC
import Derived.Test.YtdeigbdcipkaaaaGreatDoorHB
import Derived.Test.YtdeigbdcipkaaaaGreatDoorB14
import Derived.Deep.QuietTactic
import Derived.BigQuiet
import Derived.Test.YtdeigbdcipkaaaaGreatDoorHC
namespace Go.Proofs.YtdeigbdcipkaaaaGreatDoor
set_option linter.unusedVariables false
set_option linter.unusedSimpArgs false
open Go.RowKit

set_option maxHeartbeats 400000 in
theorem refFar_any (f t : Int) (w : World) (f0 : 0 ≤ f) (f1 : f < 18446744073709551616) (t0 : 0 ≤ t) (t1 : t < 18446744073709551616) :
    Calls Tryz.prog 34 #[.int .u64 f, .int .u64 t] w (Ret (.int .i64 (wrap64 (t - f))) w) := by
  go_enter Tryz.func34, Tryz.ntmps34
  go_wp2
  all_goals
    go_ret
    refine ret_int ?_
    simp only [IntKind.wrap_u64] at *; unfold wrap64; omega
set_option maxHeartbeats 400000 in
theorem rnumber_any (kind f t : Int) (w : World) (h2 : 2 ≤ kind) (h9 : kind ≤ 9) (f0 : 0 ≤ f) (f1 : f < 18446744073709551616) (t0 : 0 ≤ t) (t1 : t < 18446744073709551616) :
    Calls Tryz.prog 14 #[.int .i64 kind, .int .u64 f, .int .u64 t] w (Ret (.int .i64 (numK kind f t)) w) := by
  by_cases h5 : kind ≤ 5
  · have HF := Lib.hid (refFar_any f t w f0 f1 t0 t1)
    have HE : Hid (numK kind f t = wrap64 (t - f)) := Lib.hid (by unfold numK; rw [if_pos h5])
    generalize wrap64 (t - f) = v at *
    go_enter Tryz.func14, Tryz.ntmps14
    go_wp2_with (go_at_call 34; ((with_reducible refine (HF.out).mono ?_); rintro e w' ⟨rfl, rfl⟩))
    go_ret
    exact ret_int HE.out.symm
  by_cases h6 : kind = 6
  · subst h6
    have HF := Lib.hid (refFar_any (f - f % 4096) (t - t % 4096) w (by omega) (by omega) (by omega) (by omega))
    have HE : Hid (numK 6 f t = (wrap64 ((t - t % 4096) - (f - f % 4096))).tdiv 4096) := Lib.hid rfl
    have hb : -9223372036854775808 ≤ wrap64 ((t - t % 4096) - (f - f % 4096)) ∧ wrap64 ((t - t % 4096) - (f - f % 4096)) ≤ 9223372036854775807 := by unfold wrap64; omega
    generalize wrap64 ((t - t % 4096) - (f - f % 4096)) = v at *
    go_enter Tryz.func14, Tryz.ntmps14
    go_wp2_with (go_at_call 34; ((with_reducible refine (HF.out).mono ?_); rintro e w' ⟨rfl, rfl⟩))
    go_ret
    exact ret_int HE.out.symm
  · have q : (kind == 6) = false := by rw [beq_eq_false_iff_ne]; exact h6
    have HE : Hid (numK kind f t = t % 4096) := Lib.hid (by unfold numK; rw [if_neg h5, if_neg h6])
    clear h6
    go_enter Tryz.func14, Tryz.ntmps14
    go_wp2
    go_ret
    exact ret_int HE.out.symm

set_option maxHeartbeats 400000 in
theorem rstep2 (w : World) : Calls Tryz.prog 15 #[.int .i64 2] w (Ret (.int .i64 4) w) := by
  go_enter Tryz.func15, Tryz.ntmps15
  go_wp2
  go_ret
  exact ⟨rfl, rfl⟩
set_option maxHeartbeats 400000 in
theorem rwithin2_yes (v : Int) (w : World) (h0 : -134217728 ≤ v) (h1 : v ≤ 134217724) : Calls Tryz.prog 16 #[.int .i64 2, .int .i64 v] w (Ret (.bool true) w) := by
  go_enter Tryz.func16, Tryz.ntmps16
  go_wp2
  go_ret
  exact ret_bool (by simp <;> omega)
set_option maxHeartbeats 400000 in
theorem rwithin2_low (v : Int) (w : World) (h0 : v < -134217728) : Calls Tryz.prog 16 #[.int .i64 2, .int .i64 v] w (Ret (.bool false) w) := by
  go_enter Tryz.func16, Tryz.ntmps16
  go_wp2
  go_ret
  exact ret_bool (by simp <;> omega)
set_option maxHeartbeats 400000 in
theorem rwithin2_high (v : Int) (w : World) (h0 : 134217724 < v) : Calls Tryz.prog 16 #[.int .i64 2, .int .i64 v] w (Ret (.bool false) w) := by
  have hl : -134217728 ≤ v := by omega
  go_enter Tryz.func16, Tryz.ntmps16
  go_wp2
  go_ret
  exact ret_bool (by simp <;> omega)
set_option maxRecDepth 100000 in
set_option maxHeartbeats 4000000 in
theorem rvalue2 (f t : Int) (w : World) (f0 : 0 ≤ f) (f1 : f < 18446744073709551616) (t0 : 0 ≤ t) (t1 : t < 18446744073709551616) : Calls Tryz.prog 5 #[.int .i64 2, .int .u64 f, .int .u64 t] w (Ret (two .u64 .i64 (valK 2 f t)) w) := by
  have HN := Lib.hid (rnumber_any 2 f t w (by decide) (by decide) f0 f1 t0 t1)
  have HS := Lib.hid (rstep2 w)
  have hv : valK 2 f t = if (numK 2 f t).tmod 4 ≠ 0 then (0, 5) else if numK 2 f t < -134217728 ∨ 134217724 < numK 2 f t then (0, 4) else (numK 2 f t % 18446744073709551616, 0) := rfl
  have HV := Lib.hid hv
  have hb := numK_b 2 f t f0 f1 t0 t1
  clear hv
  generalize valK 2 f t = vk at *
  generalize numK 2 f t = v at *
  by_cases m0 : v.tmod 4 = 0
  · have q : (v.tmod 4 != 0) = false := by simp [m0]
    by_cases c1 : v < -134217728
    · have HW := Lib.hid (rwithin2_low v w c1)
      have HE : Hid (vk = (0, 4)) := Lib.hid (by rw [HV.out, if_neg (by simp [m0]), if_pos (.inl c1)])
      clear m0
      go_enter Tryz.func5, Tryz.ntmps5
      go_wp2_with (first | (go_at_call 14; ((with_reducible refine (HN.out).mono ?_); rintro e w' ⟨rfl, rfl⟩)) | (go_at_call 15; ((with_reducible refine (HS.out).mono ?_); rintro e w' ⟨rfl, rfl⟩)) | (go_at_call 16; ((with_reducible refine (HW.out).mono ?_); rintro e w' ⟨rfl, rfl⟩)))
      go_ret2
      exact ret_two (HE.out)
    by_cases c2 : 134217724 < v
    · have HW := Lib.hid (rwithin2_high v w c2)
      have HE : Hid (vk = (0, 4)) := Lib.hid (by rw [HV.out, if_neg (by simp [m0]), if_pos (.inr c2)])
      have q2 : (v % 4 != 0) = false := by rw [← Int.tmod_eq_emod_of_nonneg (by omega)]; exact q
      clear m0
      go_enter Tryz.func5, Tryz.ntmps5
      go_wp2_with (first | (go_at_call 14; ((with_reducible refine (HN.out).mono ?_); rintro e w' ⟨rfl, rfl⟩)) | (go_at_call 15; ((with_reducible refine (HS.out).mono ?_); rintro e w' ⟨rfl, rfl⟩)) | (go_at_call 16; ((with_reducible refine (HW.out).mono ?_); rintro e w' ⟨rfl, rfl⟩)))
      go_ret2
      exact ret_two (HE.out)
    have HW := Lib.hid (rwithin2_yes v w (by omega) (by omega))
    have HE : Hid (vk = (IntKind.u64.wrap v, 0)) := Lib.hid (by rw [HV.out, if_neg (by simp [m0]), if_neg (by omega), IntKind.wrap_u64])
    clear m0
    go_enter Tryz.func5, Tryz.ntmps5
    go_wp2_with (first | (go_at_call 14; ((with_reducible refine (HN.out).mono ?_); rintro e w' ⟨rfl, rfl⟩)) | (go_at_call 15; ((with_reducible refine (HS.out).mono ?_); rintro e w' ⟨rfl, rfl⟩)) | (go_at_call 16; ((with_reducible refine (HW.out).mono ?_); rintro e w' ⟨rfl, rfl⟩)))
    go_ret2
    exact ret_two (HE.out)
  · have q : (v.tmod 4 != 0) = true := by simp [m0]
    have HE : Hid (vk = (0, 5)) := Lib.hid (by rw [HV.out, if_pos m0])

    clear m0
    go_enter Tryz.func5, Tryz.ntmps5
    go_wp2_with (first | (go_at_call 14; ((with_reducible refine (HN.out).mono ?_); rintro e w' ⟨rfl, rfl⟩)) | (go_at_call 15; ((with_reducible refine (HS.out).mono ?_); rintro e w' ⟨rfl, rfl⟩)))
    go_ret2
    exact ret_two HE.out

set_option maxHeartbeats 400000 in
theorem rstep3 (w : World) : Calls Tryz.prog 15 #[.int .i64 3] w (Ret (.int .i64 4) w) := by
  go_enter Tryz.func15, Tryz.ntmps15
  go_wp2
  go_ret
  exact ⟨rfl, rfl⟩
set_option maxHeartbeats 400000 in
theorem rwithin3_yes (v : Int) (w : World) (h0 : -1048576 ≤ v) (h1 : v ≤ 1048572) : Calls Tryz.prog 16 #[.int .i64 3, .int .i64 v] w (Ret (.bool true) w) := by
  go_enter Tryz.func16, Tryz.ntmps16
  go_wp2
  go_ret
  exact ret_bool (by simp <;> omega)
set_option maxHeartbeats 400000 in
theorem rwithin3_low (v : Int) (w : World) (h0 : v < -1048576) : Calls Tryz.prog 16 #[.int .i64 3, .int .i64 v] w (Ret (.bool false) w) := by
  go_enter Tryz.func16, Tryz.ntmps16
  go_wp2
  go_ret
  exact ret_bool (by simp <;> omega)
set_option maxHeartbeats 400000 in
theorem rwithin3_high (v : Int) (w : World) (h0 : 1048572 < v) : Calls Tryz.prog 16 #[.int .i64 3, .int .i64 v] w (Ret (.bool false) w) := by
  have hl : -1048576 ≤ v := by omega
  go_enter Tryz.func16, Tryz.ntmps16
  go_wp2
  go_ret
  exact ret_bool (by simp <;> omega)
set_option maxRecDepth 100000 in
set_option maxHeartbeats 4000000 in
theorem rvalue3 (f t : Int) (w : World) (f0 : 0 ≤ f) (f1 : f < 18446744073709551616) (t0 : 0 ≤ t) (t1 : t < 18446744073709551616) : Calls Tryz.prog 5 #[.int .i64 3, .int .u64 f, .int .u64 t] w (Ret (two .u64 .i64 (valK 3 f t)) w) := by
  have HN := Lib.hid (rnumber_any 3 f t w (by decide) (by decide) f0 f1 t0 t1)
  have HS := Lib.hid (rstep3 w)
  have hv : valK 3 f t = if (numK 3 f t).tmod 4 ≠ 0 then (0, 5) else if numK 3 f t < -1048576 ∨ 1048572 < numK 3 f t then (0, 4) else (numK 3 f t % 18446744073709551616, 0) := rfl
  have HV := Lib.hid hv
  have hb := numK_b 3 f t f0 f1 t0 t1
  clear hv
  generalize valK 3 f t = vk at *
  generalize numK 3 f t = v at *
  by_cases m0 : v.tmod 4 = 0
  · have q : (v.tmod 4 != 0) = false := by simp [m0]
    by_cases c1 : v < -1048576
    · have HW := Lib.hid (rwithin3_low v w c1)
      have HE : Hid (vk = (0, 4)) := Lib.hid (by rw [HV.out, if_neg (by simp [m0]), if_pos (.inl c1)])
      clear m0
      go_enter Tryz.func5, Tryz.ntmps5
      go_wp2_with (first | (go_at_call 14; ((with_reducible refine (HN.out).mono ?_); rintro e w' ⟨rfl, rfl⟩)) | (go_at_call 15; ((with_reducible refine (HS.out).mono ?_); rintro e w' ⟨rfl, rfl⟩)) | (go_at_call 16; ((with_reducible refine (HW.out).mono ?_); rintro e w' ⟨rfl, rfl⟩)))
      go_ret2
      exact ret_two (HE.out)
    by_cases c2 : 1048572 < v
    · have HW := Lib.hid (rwithin3_high v w c2)
      have HE : Hid (vk = (0, 4)) := Lib.hid (by rw [HV.out, if_neg (by simp [m0]), if_pos (.inr c2)])
      have q2 : (v % 4 != 0) = false := by rw [← Int.tmod_eq_emod_of_nonneg (by omega)]; exact q
      clear m0
      go_enter Tryz.func5, Tryz.ntmps5
      go_wp2_with (first | (go_at_call 14; ((with_reducible refine (HN.out).mono ?_); rintro e w' ⟨rfl, rfl⟩)) | (go_at_call 15; ((with_reducible refine (HS.out).mono ?_); rintro e w' ⟨rfl, rfl⟩)) | (go_at_call 16; ((with_reducible refine (HW.out).mono ?_); rintro e w' ⟨rfl, rfl⟩)))
      go_ret2
      exact ret_two (HE.out)
    have HW := Lib.hid (rwithin3_yes v w (by omega) (by omega))
    have HE : Hid (vk = (IntKind.u64.wrap v, 0)) := Lib.hid (by rw [HV.out, if_neg (by simp [m0]), if_neg (by omega), IntKind.wrap_u64])
    clear m0
    go_enter Tryz.func5, Tryz.ntmps5
    go_wp2_with (first | (go_at_call 14; ((with_reducible refine (HN.out).mono ?_); rintro e w' ⟨rfl, rfl⟩)) | (go_at_call 15; ((with_reducible refine (HS.out).mono ?_); rintro e w' ⟨rfl, rfl⟩)) | (go_at_call 16; ((with_reducible refine (HW.out).mono ?_); rintro e w' ⟨rfl, rfl⟩)))
    go_ret2
    exact ret_two (HE.out)
  · have q : (v.tmod 4 != 0) = true := by simp [m0]
    have HE : Hid (vk = (0, 5)) := Lib.hid (by rw [HV.out, if_pos m0])

    clear m0
    go_enter Tryz.func5, Tryz.ntmps5
    go_wp2_with (first | (go_at_call 14; ((with_reducible refine (HN.out).mono ?_); rintro e w' ⟨rfl, rfl⟩)) | (go_at_call 15; ((with_reducible refine (HS.out).mono ?_); rintro e w' ⟨rfl, rfl⟩)))
    go_ret2
    exact ret_two HE.out

set_option maxHeartbeats 400000 in
theorem rstep4 (w : World) : Calls Tryz.prog 15 #[.int .i64 4] w (Ret (.int .i64 4) w) := by
  go_enter Tryz.func15, Tryz.ntmps15
  go_wp2
  go_ret
  exact ⟨rfl, rfl⟩
set_option maxHeartbeats 400000 in
theorem rwithin4_yes (v : Int) (w : World) (h0 : -1048576 ≤ v) (h1 : v ≤ 1048572) : Calls Tryz.prog 16 #[.int .i64 4, .int .i64 v] w (Ret (.bool true) w) := by
  go_enter Tryz.func16, Tryz.ntmps16
  go_wp2
  go_ret
  exact ret_bool (by simp <;> omega)
set_option maxHeartbeats 400000 in
theorem rwithin4_low (v : Int) (w : World) (h0 : v < -1048576) : Calls Tryz.prog 16 #[.int .i64 4, .int .i64 v] w (Ret (.bool false) w) := by
  go_enter Tryz.func16, Tryz.ntmps16
  go_wp2
  go_ret
  exact ret_bool (by simp <;> omega)
set_option maxHeartbeats 400000 in
theorem rwithin4_high (v : Int) (w : World) (h0 : 1048572 < v) : Calls Tryz.prog 16 #[.int .i64 4, .int .i64 v] w (Ret (.bool false) w) := by
  have hl : -1048576 ≤ v := by omega
  go_enter Tryz.func16, Tryz.ntmps16
  go_wp2
  go_ret
  exact ret_bool (by simp <;> omega)
set_option maxRecDepth 100000 in
set_option maxHeartbeats 4000000 in
theorem rvalue4 (f t : Int) (w : World) (f0 : 0 ≤ f) (f1 : f < 18446744073709551616) (t0 : 0 ≤ t) (t1 : t < 18446744073709551616) : Calls Tryz.prog 5 #[.int .i64 4, .int .u64 f, .int .u64 t] w (Ret (two .u64 .i64 (valK 4 f t)) w) := by
  have HN := Lib.hid (rnumber_any 4 f t w (by decide) (by decide) f0 f1 t0 t1)
  have HS := Lib.hid (rstep4 w)
  have hv : valK 4 f t = if (numK 4 f t).tmod 4 ≠ 0 then (0, 5) else if numK 4 f t < -1048576 ∨ 1048572 < numK 4 f t then (0, 4) else (numK 4 f t % 18446744073709551616, 0) := rfl
  have HV := Lib.hid hv
  have hb := numK_b 4 f t f0 f1 t0 t1
  clear hv
  generalize valK 4 f t = vk at *
  generalize numK 4 f t = v at *
  by_cases m0 : v.tmod 4 = 0
  · have q : (v.tmod 4 != 0) = false := by simp [m0]
    by_cases c1 : v < -1048576
    · have HW := Lib.hid (rwithin4_low v w c1)
      have HE : Hid (vk = (0, 4)) := Lib.hid (by rw [HV.out, if_neg (by simp [m0]), if_pos (.inl c1)])
      clear m0
      go_enter Tryz.func5, Tryz.ntmps5
      go_wp2_with (first | (go_at_call 14; ((with_reducible refine (HN.out).mono ?_); rintro e w' ⟨rfl, rfl⟩)) | (go_at_call 15; ((with_reducible refine (HS.out).mono ?_); rintro e w' ⟨rfl, rfl⟩)) | (go_at_call 16; ((with_reducible refine (HW.out).mono ?_); rintro e w' ⟨rfl, rfl⟩)))
      go_ret2
      exact ret_two (HE.out)
    by_cases c2 : 1048572 < v
    · have HW := Lib.hid (rwithin4_high v w c2)
      have HE : Hid (vk = (0, 4)) := Lib.hid (by rw [HV.out, if_neg (by simp [m0]), if_pos (.inr c2)])
      have q2 : (v % 4 != 0) = false := by rw [← Int.tmod_eq_emod_of_nonneg (by omega)]; exact q
      clear m0
      go_enter Tryz.func5, Tryz.ntmps5
      go_wp2_with (first | (go_at_call 14; ((with_reducible refine (HN.out).mono ?_); rintro e w' ⟨rfl, rfl⟩)) | (go_at_call 15; ((with_reducible refine (HS.out).mono ?_); rintro e w' ⟨rfl, rfl⟩)) | (go_at_call 16; ((with_reducible refine (HW.out).mono ?_); rintro e w' ⟨rfl, rfl⟩)))
      go_ret2
      exact ret_two (HE.out)
    have HW := Lib.hid (rwithin4_yes v w (by omega) (by omega))
    have HE : Hid (vk = (IntKind.u64.wrap v, 0)) := Lib.hid (by rw [HV.out, if_neg (by simp [m0]), if_neg (by omega), IntKind.wrap_u64])
    clear m0
    go_enter Tryz.func5, Tryz.ntmps5
    go_wp2_with (first | (go_at_call 14; ((with_reducible refine (HN.out).mono ?_); rintro e w' ⟨rfl, rfl⟩)) | (go_at_call 15; ((with_reducible refine (HS.out).mono ?_); rintro e w' ⟨rfl, rfl⟩)) | (go_at_call 16; ((with_reducible refine (HW.out).mono ?_); rintro e w' ⟨rfl, rfl⟩)))
    go_ret2
    exact ret_two (HE.out)
  · have q : (v.tmod 4 != 0) = true := by simp [m0]
    have HE : Hid (vk = (0, 5)) := Lib.hid (by rw [HV.out, if_pos m0])

    clear m0
    go_enter Tryz.func5, Tryz.ntmps5
    go_wp2_with (first | (go_at_call 14; ((with_reducible refine (HN.out).mono ?_); rintro e w' ⟨rfl, rfl⟩)) | (go_at_call 15; ((with_reducible refine (HS.out).mono ?_); rintro e w' ⟨rfl, rfl⟩)))
    go_ret2
    exact ret_two HE.out

set_option maxHeartbeats 400000 in
theorem rstep5 (w : World) : Calls Tryz.prog 15 #[.int .i64 5] w (Ret (.int .i64 1) w) := by
  go_enter Tryz.func15, Tryz.ntmps15
  go_wp2
  go_ret
  exact ⟨rfl, rfl⟩
set_option maxHeartbeats 400000 in
theorem rwithin5_yes (v : Int) (w : World) (h0 : -1048576 ≤ v) (h1 : v ≤ 1048575) : Calls Tryz.prog 16 #[.int .i64 5, .int .i64 v] w (Ret (.bool true) w) := by
  go_enter Tryz.func16, Tryz.ntmps16
  go_wp2
  go_ret
  exact ret_bool (by simp <;> omega)
set_option maxHeartbeats 400000 in
theorem rwithin5_low (v : Int) (w : World) (h0 : v < -1048576) : Calls Tryz.prog 16 #[.int .i64 5, .int .i64 v] w (Ret (.bool false) w) := by
  go_enter Tryz.func16, Tryz.ntmps16
  go_wp2
  go_ret
  exact ret_bool (by simp <;> omega)
set_option maxHeartbeats 400000 in
theorem rwithin5_high (v : Int) (w : World) (h0 : 1048575 < v) : Calls Tryz.prog 16 #[.int .i64 5, .int .i64 v] w (Ret (.bool false) w) := by
  have hl : -1048576 ≤ v := by omega
  go_enter Tryz.func16, Tryz.ntmps16
  go_wp2
  go_ret
  exact ret_bool (by simp <;> omega)
set_option maxRecDepth 100000 in
set_option maxHeartbeats 4000000 in
theorem rvalue5 (f t : Int) (w : World) (f0 : 0 ≤ f) (f1 : f < 18446744073709551616) (t0 : 0 ≤ t) (t1 : t < 18446744073709551616) : Calls Tryz.prog 5 #[.int .i64 5, .int .u64 f, .int .u64 t] w (Ret (two .u64 .i64 (valK 5 f t)) w) := by
  have HN := Lib.hid (rnumber_any 5 f t w (by decide) (by decide) f0 f1 t0 t1)
  have HS := Lib.hid (rstep5 w)
  have hv : valK 5 f t = if (numK 5 f t).tmod 1 ≠ 0 then (0, 5) else if numK 5 f t < -1048576 ∨ 1048575 < numK 5 f t then (0, 4) else (numK 5 f t % 18446744073709551616, 0) := rfl
  have HV := Lib.hid hv
  have hb := numK_b 5 f t f0 f1 t0 t1
  clear hv
  generalize valK 5 f t = vk at *
  generalize numK 5 f t = v at *
  by_cases m0 : v.tmod 1 = 0
  · have q : (v.tmod 1 != 0) = false := by simp [m0]
    by_cases c1 : v < -1048576
    · have HW := Lib.hid (rwithin5_low v w c1)
      have HE : Hid (vk = (0, 4)) := Lib.hid (by rw [HV.out, if_neg (by simp [m0]), if_pos (.inl c1)])
      clear m0
      go_enter Tryz.func5, Tryz.ntmps5
      go_wp2_with (first | (go_at_call 14; ((with_reducible refine (HN.out).mono ?_); rintro e w' ⟨rfl, rfl⟩)) | (go_at_call 15; ((with_reducible refine (HS.out).mono ?_); rintro e w' ⟨rfl, rfl⟩)) | (go_at_call 16; ((with_reducible refine (HW.out).mono ?_); rintro e w' ⟨rfl, rfl⟩)))
      go_ret2
      exact ret_two (HE.out)
    by_cases c2 : 1048575 < v
    · have HW := Lib.hid (rwithin5_high v w c2)
      have HE : Hid (vk = (0, 4)) := Lib.hid (by rw [HV.out, if_neg (by simp [m0]), if_pos (.inr c2)])
      have q2 : (v % 1 != 0) = false := by rw [← Int.tmod_eq_emod_of_nonneg (by omega)]; exact q
      clear m0
      go_enter Tryz.func5, Tryz.ntmps5
      go_wp2_with (first | (go_at_call 14; ((with_reducible refine (HN.out).mono ?_); rintro e w' ⟨rfl, rfl⟩)) | (go_at_call 15; ((with_reducible refine (HS.out).mono ?_); rintro e w' ⟨rfl, rfl⟩)) | (go_at_call 16; ((with_reducible refine (HW.out).mono ?_); rintro e w' ⟨rfl, rfl⟩)))
      go_ret2
      exact ret_two (HE.out)
    have HW := Lib.hid (rwithin5_yes v w (by omega) (by omega))
    have HE : Hid (vk = (IntKind.u64.wrap v, 0)) := Lib.hid (by rw [HV.out, if_neg (by simp [m0]), if_neg (by omega), IntKind.wrap_u64])
    clear m0
    go_enter Tryz.func5, Tryz.ntmps5
    go_wp2_with (first | (go_at_call 14; ((with_reducible refine (HN.out).mono ?_); rintro e w' ⟨rfl, rfl⟩)) | (go_at_call 15; ((with_reducible refine (HS.out).mono ?_); rintro e w' ⟨rfl, rfl⟩)) | (go_at_call 16; ((with_reducible refine (HW.out).mono ?_); rintro e w' ⟨rfl, rfl⟩)))
    go_ret2
    exact ret_two (HE.out)
  · exact absurd (Int.tmod_one v) m0

set_option maxHeartbeats 400000 in
theorem rstep6 (w : World) : Calls Tryz.prog 15 #[.int .i64 6] w (Ret (.int .i64 1) w) := by
  go_enter Tryz.func15, Tryz.ntmps15
  go_wp2
  go_ret
  exact ⟨rfl, rfl⟩
set_option maxHeartbeats 400000 in
theorem rwithin6_yes (v : Int) (w : World) (h0 : -1048576 ≤ v) (h1 : v ≤ 1048575) : Calls Tryz.prog 16 #[.int .i64 6, .int .i64 v] w (Ret (.bool true) w) := by
  go_enter Tryz.func16, Tryz.ntmps16
  go_wp2
  go_ret
  exact ret_bool (by simp <;> omega)
set_option maxHeartbeats 400000 in
theorem rwithin6_low (v : Int) (w : World) (h0 : v < -1048576) : Calls Tryz.prog 16 #[.int .i64 6, .int .i64 v] w (Ret (.bool false) w) := by
  go_enter Tryz.func16, Tryz.ntmps16
  go_wp2
  go_ret
  exact ret_bool (by simp <;> omega)
set_option maxHeartbeats 400000 in
theorem rwithin6_high (v : Int) (w : World) (h0 : 1048575 < v) : Calls Tryz.prog 16 #[.int .i64 6, .int .i64 v] w (Ret (.bool false) w) := by
  have hl : -1048576 ≤ v := by omega
  go_enter Tryz.func16, Tryz.ntmps16
  go_wp2
  go_ret
  exact ret_bool (by simp <;> omega)
set_option maxRecDepth 100000 in
set_option maxHeartbeats 4000000 in
theorem rvalue6 (f t : Int) (w : World) (f0 : 0 ≤ f) (f1 : f < 18446744073709551616) (t0 : 0 ≤ t) (t1 : t < 18446744073709551616) : Calls Tryz.prog 5 #[.int .i64 6, .int .u64 f, .int .u64 t] w (Ret (two .u64 .i64 (valK 6 f t)) w) := by
  have HN := Lib.hid (rnumber_any 6 f t w (by decide) (by decide) f0 f1 t0 t1)
  have HS := Lib.hid (rstep6 w)
  have hv : valK 6 f t = if (numK 6 f t).tmod 1 ≠ 0 then (0, 5) else if numK 6 f t < -1048576 ∨ 1048575 < numK 6 f t then (0, 4) else (numK 6 f t % 18446744073709551616, 0) := rfl
  have HV := Lib.hid hv
  have hb := numK_b 6 f t f0 f1 t0 t1
  clear hv
  generalize valK 6 f t = vk at *
  generalize numK 6 f t = v at *
  by_cases m0 : v.tmod 1 = 0
  · have q : (v.tmod 1 != 0) = false := by simp [m0]
    by_cases c1 : v < -1048576
    · have HW := Lib.hid (rwithin6_low v w c1)
      have HE : Hid (vk = (0, 4)) := Lib.hid (by rw [HV.out, if_neg (by simp [m0]), if_pos (.inl c1)])
      clear m0
      go_enter Tryz.func5, Tryz.ntmps5
      go_wp2_with (first | (go_at_call 14; ((with_reducible refine (HN.out).mono ?_); rintro e w' ⟨rfl, rfl⟩)) | (go_at_call 15; ((with_reducible refine (HS.out).mono ?_); rintro e w' ⟨rfl, rfl⟩)) | (go_at_call 16; ((with_reducible refine (HW.out).mono ?_); rintro e w' ⟨rfl, rfl⟩)))
      go_ret2
      exact ret_two (HE.out)
    by_cases c2 : 1048575 < v
    · have HW := Lib.hid (rwithin6_high v w c2)
      have HE : Hid (vk = (0, 4)) := Lib.hid (by rw [HV.out, if_neg (by simp [m0]), if_pos (.inr c2)])
      have q2 : (v % 1 != 0) = false := by rw [← Int.tmod_eq_emod_of_nonneg (by omega)]; exact q
      clear m0
      go_enter Tryz.func5, Tryz.ntmps5
      go_wp2_with (first | (go_at_call 14; ((with_reducible refine (HN.out).mono ?_); rintro e w' ⟨rfl, rfl⟩)) | (go_at_call 15; ((with_reducible refine (HS.out).mono ?_); rintro e w' ⟨rfl, rfl⟩)) | (go_at_call 16; ((with_reducible refine (HW.out).mono ?_); rintro e w' ⟨rfl, rfl⟩)))
      go_ret2
      exact ret_two (HE.out)
    have HW := Lib.hid (rwithin6_yes v w (by omega) (by omega))
    have HE : Hid (vk = (IntKind.u64.wrap v, 0)) := Lib.hid (by rw [HV.out, if_neg (by simp [m0]), if_neg (by omega), IntKind.wrap_u64])
    clear m0
    go_enter Tryz.func5, Tryz.ntmps5
    go_wp2_with (first | (go_at_call 14; ((with_reducible refine (HN.out).mono ?_); rintro e w' ⟨rfl, rfl⟩)) | (go_at_call 15; ((with_reducible refine (HS.out).mono ?_); rintro e w' ⟨rfl, rfl⟩)) | (go_at_call 16; ((with_reducible refine (HW.out).mono ?_); rintro e w' ⟨rfl, rfl⟩)))
    go_ret2
    exact ret_two (HE.out)
  · exact absurd (Int.tmod_one v) m0

set_option maxHeartbeats 400000 in
theorem rstep7 (w : World) : Calls Tryz.prog 15 #[.int .i64 7] w (Ret (.int .i64 1) w) := by
  go_enter Tryz.func15, Tryz.ntmps15
  go_wp2
  go_ret
  exact ⟨rfl, rfl⟩
set_option maxHeartbeats 400000 in
theorem rwithin7_yes (v : Int) (w : World) : Calls Tryz.prog 16 #[.int .i64 7, .int .i64 v] w (Ret (.bool true) w) := by
  go_enter Tryz.func16, Tryz.ntmps16
  go_wp2
  go_ret
  exact ⟨rfl, rfl⟩
set_option maxRecDepth 100000 in
set_option maxHeartbeats 4000000 in
theorem rvalue7 (f t : Int) (w : World) (f0 : 0 ≤ f) (f1 : f < 18446744073709551616) (t0 : 0 ≤ t) (t1 : t < 18446744073709551616) : Calls Tryz.prog 5 #[.int .i64 7, .int .u64 f, .int .u64 t] w (Ret (two .u64 .i64 (valK 7 f t)) w) := by
  have HN := Lib.hid (rnumber_any 7 f t w (by decide) (by decide) f0 f1 t0 t1)
  have HS := Lib.hid (rstep7 w)
  have hv : valK 7 f t = if (numK 7 f t).tmod 1 ≠ 0 then (0, 5) else if numK 7 f t < 0 ∨ 4095 < numK 7 f t then (0, 4) else (numK 7 f t % 18446744073709551616, 0) := rfl
  have HV := Lib.hid hv
  have hb := numK_b 7 f t f0 f1 t0 t1
  have hs : 0 ≤ numK 7 f t ∧ numK 7 f t ≤ 4095 := by show 0 ≤ t % 4096 ∧ t % 4096 ≤ 4095; omega
  clear hv
  generalize valK 7 f t = vk at *
  generalize numK 7 f t = v at *
  by_cases m0 : v.tmod 1 = 0
  · have q : (v.tmod 1 != 0) = false := by simp [m0]
    have HW := Lib.hid (rwithin7_yes v w)
    have q2 : (v % 1 != 0) = false := by rw [← Int.tmod_eq_emod_of_nonneg (by omega)]; exact q
    have HE : Hid (vk = (IntKind.u64.wrap v, 0)) := Lib.hid (by rw [HV.out, if_neg (by simp [m0]), if_neg (by omega), IntKind.wrap_u64])
    clear m0
    go_enter Tryz.func5, Tryz.ntmps5
    go_wp2_with (first | (go_at_call 14; ((with_reducible refine (HN.out).mono ?_); rintro e w' ⟨rfl, rfl⟩)) | (go_at_call 15; ((with_reducible refine (HS.out).mono ?_); rintro e w' ⟨rfl, rfl⟩)) | (go_at_call 16; ((with_reducible refine (HW.out).mono ?_); rintro e w' ⟨rfl, rfl⟩)))
    go_ret2
    exact ret_two (by rw [HE.out, IntKind.wrap_u64, Int.emod_eq_of_lt (by omega) (by omega)])
  · exact absurd (Int.tmod_one v) m0

set_option maxHeartbeats 400000 in
theorem rstep8 (w : World) : Calls Tryz.prog 15 #[.int .i64 8] w (Ret (.int .i64 8) w) := by
  go_enter Tryz.func15, Tryz.ntmps15
  go_wp2
  go_ret
  exact ⟨rfl, rfl⟩
set_option maxHeartbeats 400000 in
theorem rwithin8_yes (v : Int) (w : World) : Calls Tryz.prog 16 #[.int .i64 8, .int .i64 v] w (Ret (.bool true) w) := by
  go_enter Tryz.func16, Tryz.ntmps16
  go_wp2
  go_ret
  exact ⟨rfl, rfl⟩
set_option maxRecDepth 100000 in
set_option maxHeartbeats 4000000 in
theorem rvalue8 (f t : Int) (w : World) (f0 : 0 ≤ f) (f1 : f < 18446744073709551616) (t0 : 0 ≤ t) (t1 : t < 18446744073709551616) : Calls Tryz.prog 5 #[.int .i64 8, .int .u64 f, .int .u64 t] w (Ret (two .u64 .i64 (valK 8 f t)) w) := by
  have HN := Lib.hid (rnumber_any 8 f t w (by decide) (by decide) f0 f1 t0 t1)
  have HS := Lib.hid (rstep8 w)
  have hv : valK 8 f t = if (numK 8 f t).tmod 8 ≠ 0 then (0, 5) else if numK 8 f t < 0 ∨ 4095 < numK 8 f t then (0, 4) else (numK 8 f t % 18446744073709551616, 0) := rfl
  have HV := Lib.hid hv
  have hb := numK_b 8 f t f0 f1 t0 t1
  have hs : 0 ≤ numK 8 f t ∧ numK 8 f t ≤ 4095 := by show 0 ≤ t % 4096 ∧ t % 4096 ≤ 4095; omega
  clear hv
  generalize valK 8 f t = vk at *
  generalize numK 8 f t = v at *
  by_cases m0 : v.tmod 8 = 0
  · have q : (v.tmod 8 != 0) = false := by simp [m0]
    have HW := Lib.hid (rwithin8_yes v w)
    have q2 : (v % 8 != 0) = false := by rw [← Int.tmod_eq_emod_of_nonneg (by omega)]; exact q
    have HE : Hid (vk = (IntKind.u64.wrap v, 0)) := Lib.hid (by rw [HV.out, if_neg (by simp [m0]), if_neg (by omega), IntKind.wrap_u64])
    clear m0
    go_enter Tryz.func5, Tryz.ntmps5
    go_wp2_with (first | (go_at_call 14; ((with_reducible refine (HN.out).mono ?_); rintro e w' ⟨rfl, rfl⟩)) | (go_at_call 15; ((with_reducible refine (HS.out).mono ?_); rintro e w' ⟨rfl, rfl⟩)) | (go_at_call 16; ((with_reducible refine (HW.out).mono ?_); rintro e w' ⟨rfl, rfl⟩)))
    go_ret2
    exact ret_two (by rw [HE.out, IntKind.wrap_u64, Int.emod_eq_of_lt (by omega) (by omega)])
  · have q : (v.tmod 8 != 0) = true := by simp [m0]
    have HE : Hid (vk = (0, 5)) := Lib.hid (by rw [HV.out, if_pos m0])
    have q2 : (v % 8 != 0) = true := by rw [← Int.tmod_eq_emod_of_nonneg (by omega)]; exact q
    clear m0
    go_enter Tryz.func5, Tryz.ntmps5
    go_wp2_with (first | (go_at_call 14; ((with_reducible refine (HN.out).mono ?_); rintro e w' ⟨rfl, rfl⟩)) | (go_at_call 15; ((with_reducible refine (HS.out).mono ?_); rintro e w' ⟨rfl, rfl⟩)))
    go_ret2
    exact ret_two HE.out

set_option maxHeartbeats 400000 in
theorem rstep9 (w : World) : Calls Tryz.prog 15 #[.int .i64 9] w (Ret (.int .i64 1) w) := by
  go_enter Tryz.func15, Tryz.ntmps15
  go_wp2
  go_ret
  exact ⟨rfl, rfl⟩
set_option maxHeartbeats 400000 in
theorem rwithin9_yes (v : Int) (w : World) : Calls Tryz.prog 16 #[.int .i64 9, .int .i64 v] w (Ret (.bool true) w) := by
  go_enter Tryz.func16, Tryz.ntmps16
  go_wp2
  go_ret
  exact ⟨rfl, rfl⟩
set_option maxRecDepth 100000 in
set_option maxHeartbeats 4000000 in
theorem rvalue9 (f t : Int) (w : World) (f0 : 0 ≤ f) (f1 : f < 18446744073709551616) (t0 : 0 ≤ t) (t1 : t < 18446744073709551616) : Calls Tryz.prog 5 #[.int .i64 9, .int .u64 f, .int .u64 t] w (Ret (two .u64 .i64 (valK 9 f t)) w) := by
  have HN := Lib.hid (rnumber_any 9 f t w (by decide) (by decide) f0 f1 t0 t1)
  have HS := Lib.hid (rstep9 w)
  have hv : valK 9 f t = if (numK 9 f t).tmod 1 ≠ 0 then (0, 5) else if numK 9 f t < 0 ∨ 4095 < numK 9 f t then (0, 4) else (numK 9 f t % 18446744073709551616, 0) := rfl
  have HV := Lib.hid hv
  have hb := numK_b 9 f t f0 f1 t0 t1
  have hs : 0 ≤ numK 9 f t ∧ numK 9 f t ≤ 4095 := by show 0 ≤ t % 4096 ∧ t % 4096 ≤ 4095; omega
  clear hv
  generalize valK 9 f t = vk at *
  generalize numK 9 f t = v at *
  by_cases m0 : v.tmod 1 = 0
  · have q : (v.tmod 1 != 0) = false := by simp [m0]
    have HW := Lib.hid (rwithin9_yes v w)
    have q2 : (v % 1 != 0) = false := by rw [← Int.tmod_eq_emod_of_nonneg (by omega)]; exact q
    have HE : Hid (vk = (IntKind.u64.wrap v, 0)) := Lib.hid (by rw [HV.out, if_neg (by simp [m0]), if_neg (by omega), IntKind.wrap_u64])
    clear m0
    go_enter Tryz.func5, Tryz.ntmps5
    go_wp2_with (first | (go_at_call 14; ((with_reducible refine (HN.out).mono ?_); rintro e w' ⟨rfl, rfl⟩)) | (go_at_call 15; ((with_reducible refine (HS.out).mono ?_); rintro e w' ⟨rfl, rfl⟩)) | (go_at_call 16; ((with_reducible refine (HW.out).mono ?_); rintro e w' ⟨rfl, rfl⟩)))
    go_ret2
    exact ret_two (by rw [HE.out, IntKind.wrap_u64, Int.emod_eq_of_lt (by omega) (by omega)])
  · exact absurd (Int.tmod_one v) m0

set_option maxHeartbeats 400000 in
theorem rvalue_low (k f t : Int) (w : World) (h : k < 1) : Calls Tryz.prog 5 #[.int .i64 k, .int .u64 f, .int .u64 t] w (Ret (two .u64 .i64 (0, 1)) w) := by
  go_enter Tryz.func5, Tryz.ntmps5
  go_wp2
  go_ret2
  exact ⟨rfl, rfl⟩
set_option maxHeartbeats 400000 in
theorem rvalue_high (k f t : Int) (w : World) (h : 9 < k) : Calls Tryz.prog 5 #[.int .i64 k, .int .u64 f, .int .u64 t] w (Ret (two .u64 .i64 (0, 1)) w) := by
  have h' : ¬ k < 1 := by omega
  go_enter Tryz.func5, Tryz.ntmps5
  go_wp2
  go_ret2
  exact ⟨rfl, rfl⟩
set_option maxHeartbeats 400000 in
theorem rvalue1 (f t : Int) (w : World) : Calls Tryz.prog 5 #[.int .i64 1, .int .u64 f, .int .u64 t] w (Ret (two .u64 .i64 (t, 0)) w) := by
  go_enter Tryz.func5, Tryz.ntmps5
  go_wp2
  go_ret2
  exact ⟨rfl, rfl⟩
theorem rValue_any (k f t : Int) (w : World) (f0 : 0 ≤ f) (f1 : f < 18446744073709551616) (t0 : 0 ≤ t) (t1 : t < 18446744073709551616) : Calls Tryz.prog 5 #[.int .i64 k, .int .u64 f, .int .u64 t] w (Ret (two .u64 .i64 (valK k f t)) w) := by
  by_cases h : k < 1 ∨ 9 < k
  · have e : valK k f t = (0, 1) := by unfold valK; rw [if_pos h]
    rw [e]
    rcases h with h | h
    · exact rvalue_low k f t w h
    · exact rvalue_high k f t w h
  · have hc : k = 1 ∨ k = 2 ∨ k = 3 ∨ k = 4 ∨ k = 5 ∨ k = 6 ∨ k = 7 ∨ k = 8 ∨ k = 9 := by omega
    rcases hc with rfl | rfl | rfl | rfl | rfl | rfl | rfl | rfl | rfl
    · exact rvalue1 f t w
    · exact rvalue2 f t w f0 f1 t0 t1
    · exact rvalue3 f t w f0 f1 t0 t1
    · exact rvalue4 f t w f0 f1 t0 t1
    · exact rvalue5 f t w f0 f1 t0 t1
    · exact rvalue6 f t w f0 f1 t0 t1
    · exact rvalue7 f t w f0 f1 t0 t1
    · exact rvalue8 f t w f0 f1 t0 t1
    · exact rvalue9 f t w f0 f1 t0 t1

theorem fitK_any (kind o : Int) (k : Int) (L : List Int) (hk : 2 ≤ k ∧ k ≤ 9) (h : ∀ j : Fin 10, (fitT.getD j.val []).any (· == o) = ((j.val : Int) == k)) : (fitK kind).any (· == o) = (kind == k) := by
  unfold fitK
  by_cases c : kind < 0 ∨ 9 < kind
  · rw [if_pos c]
    symm
    rw [List.any_nil, beq_eq_false_iff_ne]; omega
  · rw [if_neg c]
    have := h ⟨kind.toNat, by omega⟩
    simp only [] at this
    rw [this, show ((kind.toNat : Nat) : Int) = kind from by omega]
theorem fitK_none (kind o : Int) (h : ∀ j : Fin 10, (fitT.getD j.val []).any (· == o) = false) : (fitK kind).any (· == o) = false := by
  unfold fitK
  by_cases c : kind < 0 ∨ 9 < kind
  · rw [if_pos c]; rfl
  · rw [if_neg c]; exact h ⟨kind.toNat, by omega⟩
theorem fits_head {kind : Int} {i : In} (hI : isI i = true) (h0 : i.imm = 0) (h1 : i.amount = 0) : fitsI kind i = (fitK kind).any (· == i.op) := by
  unfold fitsI; rw [hI, h0, h1]; simp
theorem rfits_imm {kind : Int} {i : In} (h0 : i.imm ≠ 0) : fitsI kind i = false := by
  unfold fitsI; simp [h0]
theorem fits_am {kind : Int} {i : In} (h0 : i.amount ≠ 0) : fitsI kind i = false := by
  unfold fitsI; simp [h0]
set_option maxRecDepth 100000 in
set_option maxHeartbeats 8000000 in
theorem rFits_any (kind : Int) (x : Nat) (w : World) (hx : x < 4294967296) : Calls Tryz.prog 20 #[.int .i64 kind, .int .u32 x] w (RetB (.bool (fitsI kind (readW x))) w) := by
  have HB := Lib.hid (Below.refl w.heap.size w)
  cases hI : isI (readW x)
  · have HE : Hid (fitsI kind (readW x) = false) := Lib.hid (by unfold fitsI; rw [hI]; rfl)
    have HD : Hid (∀ w, Calls Tryz.prog 21 #[.int .u32 x] w (RetB (.tuple #[inV inZ, .int .i64 11]) w)) := Lib.hid fun w => by
      have := RDecode_any x hx w
      rwa [show dI x = (inZ, 11) from by unfold dI; rw [hI]; rfl] at this
    clear hI
    go_enter Tryz.func20, Tryz.ntmps20
    go_wp2_with (go_at_call 21; ((with_reducible refine (HD.out _).mono ?_); rintro e w1 ⟨rfl, hb⟩; replace HB := Lib.hid (after HB.out hb); clear hb))
    go_ret
    exact retB_bool HE.out.symm (bel_alloc HB.out _)
  have HD : Hid (∀ w, Calls Tryz.prog 21 #[.int .u32 x] w (RetB (.tuple #[inV (readW x), .int .i64 0]) w)) := Lib.hid fun w => by
    have := RDecode_any x hx w
    rwa [show dI x = (readW x, 0) from by unfold dI; rw [hI]; rfl] at this
  have ho := code_op hI
  by_cases h0 : (readW x).imm = 0
  · by_cases h1 : (readW x).amount = 0
    · have he := fits_head (kind := kind) hI h0 h1
      generalize readW x = i at *
      obtain ⟨o, d, n, m, a, y, kk, hh, t, c⟩ := i
      simp only [] at h0 h1 he ho
      subst h0 h1
      clear hI
      rw [he]
      clear he
      have hc : o = 29 ∨ o = 30 ∨ o = 31 ∨ o = 32 ∨ o = 33 ∨ o = 26 ∨ o = 27 ∨ o = 28 ∨ o = 4 ∨ o = 22 ∨ o = 23 ∨ o = 24 ∨ o = 25 ∨ (o ≠ 29 ∧ o ≠ 30 ∧ o ≠ 31 ∧ o ≠ 32 ∧ o ≠ 33 ∧ o ≠ 26 ∧ o ≠ 27 ∧ o ≠ 28 ∧ o ≠ 4 ∧ o ≠ 22 ∧ o ≠ 23 ∧ o ≠ 24 ∧ o ≠ 25) := by omega
      rcases hc with rfl | rfl | rfl | rfl | rfl | rfl | rfl | rfl | rfl | rfl | rfl | rfl | rfl | hno
      · have HE := Lib.hid (fitK_any kind 29 2 [] (by decide) (by decide))
        go_enter Tryz.func20, Tryz.ntmps20
        go_wp2_with (go_at_call 21; ((with_reducible refine (HD.out _).mono ?_); rintro e w1 ⟨rfl, hb⟩; replace HB := Lib.hid (after HB.out hb); clear hb))
        go_ret
        exact retB_bool HE.out.symm (bel_alloc HB.out _)
      · have HE := Lib.hid (fitK_any kind 30 2 [] (by decide) (by decide))
        go_enter Tryz.func20, Tryz.ntmps20
        go_wp2_with (go_at_call 21; ((with_reducible refine (HD.out _).mono ?_); rintro e w1 ⟨rfl, hb⟩; replace HB := Lib.hid (after HB.out hb); clear hb))
        go_ret
        exact retB_bool HE.out.symm (bel_alloc HB.out _)
      · have HE := Lib.hid (fitK_any kind 31 3 [] (by decide) (by decide))
        go_enter Tryz.func20, Tryz.ntmps20
        go_wp2_with (go_at_call 21; ((with_reducible refine (HD.out _).mono ?_); rintro e w1 ⟨rfl, hb⟩; replace HB := Lib.hid (after HB.out hb); clear hb))
        go_ret
        exact retB_bool HE.out.symm (bel_alloc HB.out _)
      · have HE := Lib.hid (fitK_any kind 32 3 [] (by decide) (by decide))
        go_enter Tryz.func20, Tryz.ntmps20
        go_wp2_with (go_at_call 21; ((with_reducible refine (HD.out _).mono ?_); rintro e w1 ⟨rfl, hb⟩; replace HB := Lib.hid (after HB.out hb); clear hb))
        go_ret
        exact retB_bool HE.out.symm (bel_alloc HB.out _)
      · have HE := Lib.hid (fitK_any kind 33 3 [] (by decide) (by decide))
        go_enter Tryz.func20, Tryz.ntmps20
        go_wp2_with (go_at_call 21; ((with_reducible refine (HD.out _).mono ?_); rintro e w1 ⟨rfl, hb⟩; replace HB := Lib.hid (after HB.out hb); clear hb))
        go_ret
        exact retB_bool HE.out.symm (bel_alloc HB.out _)
      · have HE := Lib.hid (fitK_any kind 26 4 [] (by decide) (by decide))
        go_enter Tryz.func20, Tryz.ntmps20
        go_wp2_with (go_at_call 21; ((with_reducible refine (HD.out _).mono ?_); rintro e w1 ⟨rfl, hb⟩; replace HB := Lib.hid (after HB.out hb); clear hb))
        go_ret
        exact retB_bool HE.out.symm (bel_alloc HB.out _)
      · have HE := Lib.hid (fitK_any kind 27 5 [] (by decide) (by decide))
        go_enter Tryz.func20, Tryz.ntmps20
        go_wp2_with (go_at_call 21; ((with_reducible refine (HD.out _).mono ?_); rintro e w1 ⟨rfl, hb⟩; replace HB := Lib.hid (after HB.out hb); clear hb))
        go_ret
        exact retB_bool HE.out.symm (bel_alloc HB.out _)
      · have HE := Lib.hid (fitK_any kind 28 6 [] (by decide) (by decide))
        go_enter Tryz.func20, Tryz.ntmps20
        go_wp2_with (go_at_call 21; ((with_reducible refine (HD.out _).mono ?_); rintro e w1 ⟨rfl, hb⟩; replace HB := Lib.hid (after HB.out hb); clear hb))
        go_ret
        exact retB_bool HE.out.symm (bel_alloc HB.out _)
      · have HE := Lib.hid (fitK_any kind 4 7 [] (by decide) (by decide))
        go_enter Tryz.func20, Tryz.ntmps20
        go_wp2_with (go_at_call 21; ((with_reducible refine (HD.out _).mono ?_); rintro e w1 ⟨rfl, hb⟩; replace HB := Lib.hid (after HB.out hb); clear hb))
        go_ret
        exact retB_bool HE.out.symm (bel_alloc HB.out _)
      · have HE := Lib.hid (fitK_any kind 22 8 [] (by decide) (by decide))
        go_enter Tryz.func20, Tryz.ntmps20
        go_wp2_with (go_at_call 21; ((with_reducible refine (HD.out _).mono ?_); rintro e w1 ⟨rfl, hb⟩; replace HB := Lib.hid (after HB.out hb); clear hb))
        go_ret
        exact retB_bool HE.out.symm (bel_alloc HB.out _)
      · have HE := Lib.hid (fitK_any kind 23 8 [] (by decide) (by decide))
        go_enter Tryz.func20, Tryz.ntmps20
        go_wp2_with (go_at_call 21; ((with_reducible refine (HD.out _).mono ?_); rintro e w1 ⟨rfl, hb⟩; replace HB := Lib.hid (after HB.out hb); clear hb))
        go_ret
        exact retB_bool HE.out.symm (bel_alloc HB.out _)
      · have HE := Lib.hid (fitK_any kind 24 9 [] (by decide) (by decide))
        go_enter Tryz.func20, Tryz.ntmps20
        go_wp2_with (go_at_call 21; ((with_reducible refine (HD.out _).mono ?_); rintro e w1 ⟨rfl, hb⟩; replace HB := Lib.hid (after HB.out hb); clear hb))
        go_ret
        exact retB_bool HE.out.symm (bel_alloc HB.out _)
      · have HE := Lib.hid (fitK_any kind 25 9 [] (by decide) (by decide))
        go_enter Tryz.func20, Tryz.ntmps20
        go_wp2_with (go_at_call 21; ((with_reducible refine (HD.out _).mono ?_); rintro e w1 ⟨rfl, hb⟩; replace HB := Lib.hid (after HB.out hb); clear hb))
        go_ret
        exact retB_bool HE.out.symm (bel_alloc HB.out _)
      · have hz : (fitK kind).any (· == o) = false := fitK_none kind o (by
          intro j
          match j with
          | ⟨0, _⟩ => simp [fitT]; omega
          | ⟨1, _⟩ => simp [fitT]; omega
          | ⟨2, _⟩ => simp [fitT]; omega
          | ⟨3, _⟩ => simp [fitT]; omega
          | ⟨4, _⟩ => simp [fitT]; omega
          | ⟨5, _⟩ => simp [fitT]; omega
          | ⟨6, _⟩ => simp [fitT]; omega
          | ⟨7, _⟩ => simp [fitT]; omega
          | ⟨8, _⟩ => simp [fitT]; omega
          | ⟨9, _⟩ => simp [fitT]; omega)
        have HE := Lib.hid hz
        clear hz
        obtain ⟨g29, g30, g31, g32, g33, g26, g27, g28, g4, g22, g23, g24, g25⟩ := hno
        have q29 : (o == 29) = false := by rw [beq_eq_false_iff_ne]; exact g29
        have q30 : (o == 30) = false := by rw [beq_eq_false_iff_ne]; exact g30
        have q31 : (o == 31) = false := by rw [beq_eq_false_iff_ne]; exact g31
        have q32 : (o == 32) = false := by rw [beq_eq_false_iff_ne]; exact g32
        have q33 : (o == 33) = false := by rw [beq_eq_false_iff_ne]; exact g33
        have q26 : (o == 26) = false := by rw [beq_eq_false_iff_ne]; exact g26
        have q27 : (o == 27) = false := by rw [beq_eq_false_iff_ne]; exact g27
        have q28 : (o == 28) = false := by rw [beq_eq_false_iff_ne]; exact g28
        have q4 : (o == 4) = false := by rw [beq_eq_false_iff_ne]; exact g4
        have q22 : (o == 22) = false := by rw [beq_eq_false_iff_ne]; exact g22
        have q23 : (o == 23) = false := by rw [beq_eq_false_iff_ne]; exact g23
        have q24 : (o == 24) = false := by rw [beq_eq_false_iff_ne]; exact g24
        have q25 : (o == 25) = false := by rw [beq_eq_false_iff_ne]; exact g25
        clear g29 g30 g31 g32 g33 g26 g27 g28 g4 g22 g23 g24 g25
        go_enter Tryz.func20, Tryz.ntmps20
        go_wp2_with (go_at_call 21; ((with_reducible refine (HD.out _).mono ?_); rintro e w1 ⟨rfl, hb⟩; replace HB := Lib.hid (after HB.out hb); clear hb))
        go_ret
        exact retB_bool HE.out.symm (bel_alloc HB.out _)
    · have HE := Lib.hid (fits_am (kind := kind) h1)
      generalize readW x = i at *
      obtain ⟨o, d, n, m, a, y, kk, hh, t, c⟩ := i
      simp only [] at h0 h1
      subst h0
      have q : (t == 0) = false := by rw [beq_eq_false_iff_ne]; exact h1
      have q2 : (t != 0) = true := by rw [bne_iff_ne]; exact h1
      clear hI h1 ho
      go_enter Tryz.func20, Tryz.ntmps20
      go_wp2_with (go_at_call 21; ((with_reducible refine (HD.out _).mono ?_); rintro e w1 ⟨rfl, hb⟩; replace HB := Lib.hid (after HB.out hb); clear hb))
      go_ret
      exact retB_bool HE.out.symm (bel_alloc HB.out _)
  · have HE := Lib.hid (rfits_imm (kind := kind) h0)
    generalize readW x = i at *
    obtain ⟨o, d, n, m, a, y, kk, hh, t, c⟩ := i
    simp only [] at h0
    have q : (y == 0) = false := by rw [beq_eq_false_iff_ne]; exact h0
    have q2 : (y != 0) = true := by rw [bne_iff_ne]; exact h0
    clear hI h0 ho
    go_enter Tryz.func20, Tryz.ntmps20
    go_wp2_with (go_at_call 21; ((with_reducible refine (HD.out _).mono ?_); rintro e w1 ⟨rfl, hb⟩; replace HB := Lib.hid (after HB.out hb); clear hb))
    go_ret
    exact retB_bool HE.out.symm (bel_alloc HB.out _)

set_option maxHeartbeats 400000 in
theorem rSize_any (kind : Int) (w : World) : Calls Tryz.prog 26 #[.int .i64 kind] w (Ret (.int .i64 (if kind = 1 then 8 else 4)) w) := by
  by_cases h : kind = 1
  · subst h
    go_enter Tryz.func26, Tryz.ntmps26
    go_wp2
    go_ret
    exact ⟨rfl, rfl⟩
  · have q : (kind == 1) = false := by rw [beq_eq_false_iff_ne]; exact h
    have e : (if kind = 1 then (8 : Int) else 4) = 4 := if_neg h
    rw [e]
    clear h e
    go_enter Tryz.func26, Tryz.ntmps26
    go_wp2
    go_ret
    exact ⟨rfl, rfl⟩
theorem hone_str (wr : World) (c : UInt8) (x : Int) (hx : x = c.toNat) : (convert 74 9 (.slice (some ⟨wr.heap.size, 0, none⟩) 1 1)).run Tryz.prog (wr.alloc (.cells #[.int .u8 x] 5)) = .ok (.string ⟨#[c]⟩) (wr.alloc (.cells #[.int .u8 x] 5)) := by
  subst hx
  have := run_convert_bytes_back (P := Tryz.prog) (wr.alloc (.cells #[.int .u8 c.toNat] 5)) 74 9 5 ⟨wr.heap.size, 0, none⟩ 1 [c] Tryz.underlying74 Tryz.underlying5 Tryz.underlying9
  refine this ?_
  intro j hj
  obtain rfl : j = 0 := by simpa using hj
  simp [Addr.add]
theorem hcat_list (a b : ByteArray) : (a ++ b).data.toList = a.data.toList ++ b.data.toList := by
  simp
theorem hlist_size (a : ByteArray) : a.data.toList.length = a.size := Array.length_toList
theorem hbytes_ext {a b : ByteArray} (h : a.data.toList = b.data.toList) : a = b := by
  cases a; cases b; congr 1; exact Array.toList_inj.1 h
theorem leB_succ (n v : Nat) : leB (n + 1) v = leB n v ++ [UInt8.ofNat (v / 256 ^ n)] := by
  induction n generalizing v with
  | zero => simp [leB]
  | succ n ih =>
    rw [leB, ih (v / 256), leB, List.cons_append, Nat.div_div_eq_div_mul, Nat.pow_succ, Nat.mul_comm 256]
set_option maxRecDepth 100000 in
set_option maxHeartbeats 2000000 in
theorem rBytes_any (v : Nat) (n : Nat) (w : World) (hv : v < 18446744073709551616) (hn : n ≤ 8) : Calls Tryz.prog 27 #[.int .u64 (v : Int), .int .i64 (n : Int)] w (RetB (.string ⟨(leB n v).toArray⟩) w) := by
  have HB := Lib.hid (Below.refl w.heap.size w)
  go_enter Tryz.func27, Tryz.ntmps27
  go_wp2
  go_loopw [0, 5, 6] (fun vv out i wr => ∃ (k : Nat) (O : ByteArray), k ≤ n ∧ i = .int .i64 k ∧ vv = .int .u64 ((v / 256 ^ k : Nat) : Int) ∧ out = .string O ∧ O.data.toList = leB k v ∧ Below w.heap.size w wr) (fun _ _ i _ => n - (intOf i).toNat)
  case atStart => exact ⟨0, ⟨#[]⟩, by omega, rfl, by simp, rfl, rfl, HB.out⟩
  case round =>
    obtain ⟨k, O, hk, rfl, rfl, rfl, ho, hb⟩ := hrel
    replace HB := Lib.hid hb
    clear hb
    by_cases hlt : k < n
    · obtain ⟨u, hu⟩ : ∃ u, u = v / 256 ^ k := ⟨_, rfl⟩
      have hul : u < 18446744073709551616 := by rw [hu]; exact Nat.lt_of_le_of_lt (Nat.div_le_self _ _) hv
      have HU : Hid (v / 256 ^ (k + 1) = u / 256) := Lib.hid (by rw [hu, Nat.pow_succ, Nat.div_div_eq_div_mul])
      have HO : Hid ((O ++ ⟨#[UInt8.ofNat u]⟩).data.toList = leB (k + 1) v) := Lib.hid (by rw [hcat_list, leB_succ, ho, hu])
      have ho8 : O.size ≤ 8 := by rw [← hlist_size, ho, leB_len]; omega
      have hcv := hone_str wr (UInt8.ofNat u) ((u : Int) % 256) (by rw [UInt8.toNat_ofNat']; rfl)
      rw [← hu]
      generalize UInt8.ofNat u = c at *
      clear hu ho
      have u0 : (0 : Int) ≤ u := by omega
      have u1 : (u : Int) < 18446744073709551616 := by omega
      go_wp2
      exact ⟨⟨k + 1, _, by omega, by go_num, by rw [HU.out]; go_num, rfl, HO.out, HB.out.alloc HB.out.size _⟩, by simp [intOf]; omega⟩
    · have HE : Hid (O = ⟨(leB n v).toArray⟩) := Lib.hid (hbytes_ext (by rw [ho, show k = n from by omega]))
      clear ho
      go_wp2
      go_ret
      exact ⟨by rw [HE.out]; rfl, HB.out⟩
theorem add_byte (u b k : Nat) (hu : u < 256 ^ k) (hb : b < 256) (hk : k ≤ 7) :
    IntKind.u64.wrap ((u : Int) + IntKind.u64.wrap (IntKind.u64.wrap (b : Int) * 2 ^ (8 * k))) = ((u + b * 256 ^ k : Nat) : Int) := by
  have h1 : (256 : Nat) ^ k ≤ 256 ^ 7 := Nat.pow_le_pow_right (by decide) hk
  have h2 : b * 256 ^ k ≤ 255 * 256 ^ k := Nat.mul_le_mul_right _ (by omega)
  have h3 : (256 : Nat) ^ 7 = 72057594037927936 := by decide
  rw [h3] at h1
  have e0 : IntKind.u64.wrap (b : Int) = (b : Int) := by rw [IntKind.wrap_u64, Int.emod_eq_of_lt (by omega) (by omega)]
  have e1 : ((b : Int) * 2 ^ (8 * k)) = ((b * 256 ^ k : Nat) : Int) := by rw [Int.natCast_mul, pow256, pow_cast]
  rw [e0, e1, IntKind.wrap_u64, IntKind.wrap_u64]
  omega
set_option maxRecDepth 100000 in
set_option maxHeartbeats 2000000 in
theorem refNumber_any (D : ByteArray) (w : World) (hs : D.size ≤ 8) : Calls Tryz.prog 28 #[.string D] w (RetD (.int .u64 ((leV D.data.toList : Nat) : Int)) w) := by
  go_enter Tryz.func28, Tryz.ntmps28
  go_wp2
  go_loopw [3, 4] (fun v i wr => ∃ k : Nat, k ≤ D.size ∧ i = .int .i64 k ∧ v = .int .u64 ((leV (D.data.toList.take k) : Nat) : Int) ∧ ∃ m, wr = w.drewN m) (fun _ i _ => D.size - (intOf i).toNat)
  case atStart => exact ⟨0, by omega, rfl, rfl, 0, rfl⟩
  case round =>
    obtain ⟨k, hk, rfl, rfl, m, rfl⟩ := hrel
    have hl : (D.data.toList.take k).length = k := by rw [List.length_take, Array.length_toList]; have : D.data.size = D.size := rfl; omega
    by_cases hlt : k < D.size
    · have hu := leV_lt (D.data.toList.take k)
      rw [hl] at hu
      have HS : Hid (leV (D.data.toList.take (k + 1)) = leV (D.data.toList.take k) + D[k].toNat * 256 ^ k) := Lib.hid (by rw [ftake_snoc D k hlt, leV_snoc, hl])
      have HO := Lib.hid (add_byte (leV (D.data.toList.take k)) D[k].toNat k hu D[k].toNat_lt (by omega))
      have HP : Hid (∀ w, Calls Tryz.prog 48 #[.int .i64 (8 * (k : Int))] w fun e w' => e = .returned (.int .u64 (2 ^ (8 * k))) ∧ w' = w) := Lib.hid fun w => by
        have := Power_any (8 * (k : Int)) w (by omega)
        rw [show (8 * (k : Int)).toNat = 8 * k from by omega] at this
        exact this.mono fun _ _ h => ⟨h.1, h.2.symm⟩
      have e8 : IntKind.i64.wrap (8 * (k : Int)) = 8 * (k : Int) := by rw [IntKind.wrap_i64]; omega
      generalize leV (D.data.toList.take k) = u at *
      have hk7 : k ≤ 7 := by omega
      have k0 : (0 : Int) ≤ k := by omega
      have k1 : (k : Int) < D.size := by omega
      clear hl hu
      obtain ⟨wr, hwr⟩ : ∃ wr, wr = w.drewN m := ⟨_, rfl⟩
      have HWR := Lib.hid hwr
      rw [← hwr]
      clear hwr
      go_wp2
      go_quiet ((go_at_call 48; exact Calls.quiet_of_same (HP.out _)))
      go_wp2
      exact ⟨⟨k + 1, by omega, by go_num, by rw [HS.out, ← HO.out], m + nq, by rw [HWR.out]; simp⟩, by simp [intOf]; omega⟩
    · have HE : Hid (D.data.toList.take k = D.data.toList) := Lib.hid (List.take_of_length_le (by rw [Array.length_toList]; have : D.data.size = D.size := rfl; omega))
      clear hl
      go_wp2
      go_ret
      exact ⟨by rw [HE.out]; rfl, m, rfl⟩

set_option maxRecDepth 100000 in
set_option maxHeartbeats 4000000 in
theorem rword_out (kind f t : Int) (x : Nat) (w : World) (h : kind < 2 ∨ 9 < kind) : Calls Tryz.prog 7 #[.int .i64 kind, .int .u32 x, .int .u64 f, .int .u64 t] w (RetB (two .u32 .i64 (0, 1)) w) := by
  by_cases h2 : kind < 2
  · clear h
    go_enter Tryz.func7, Tryz.ntmps7
    go_wp2
    go_ret2
    exact ⟨rfl, Below.refl _ _⟩
  · have h9 : 9 < kind := by omega
    clear h
    go_enter Tryz.func7, Tryz.ntmps7
    go_wp2
    go_ret2
    exact ⟨rfl, Below.refl _ _⟩
set_option maxRecDepth 100000 in
set_option maxHeartbeats 8000000 in
theorem rWord_any (kind f t : Int) (x : Nat) (w : World) (hx : x < 4294967296) (f0 : 0 ≤ f) (f1 : f < 18446744073709551616) (t0 : 0 ≤ t) (t1 : t < 18446744073709551616) :
    Calls Tryz.prog 7 #[.int .i64 kind, .int .u32 x, .int .u64 f, .int .u64 t] w (RetB (two .u32 .i64 (wordK kind x f t)) w) := by
  by_cases hr : kind < 2 ∨ 9 < kind
  · rw [show wordK kind x f t = (0, 1) from by unfold wordK; rw [if_pos (by omega)]]
    exact rword_out kind f t x w hr
  have h2 : 2 ≤ kind := by omega
  have h9 : kind ≤ 9 := by omega
  have HF : Hid (∀ w, Calls Tryz.prog 20 #[.int .i64 kind, .int .u32 x] w (RetB (.bool (fitsI kind (readW x))) w)) := Lib.hid fun w => rFits_any kind x w hx
  have HV : Hid (∀ w, Calls Tryz.prog 5 #[.int .i64 kind, .int .u64 f, .int .u64 t] w (Ret (two .u64 .i64 (valK kind f t)) w)) := Lib.hid fun w => rValue_any kind f t w f0 f1 t0 t1
  have HB := Lib.hid (Below.refl w.heap.size w)
  have n9 : ¬ 9 < kind := by omega
  clear hr
  cases hf : fitsI kind (readW x)
  · rw [hf] at HF
    have HE : Hid (wordK kind x f t = (0, 11)) := Lib.hid (by unfold wordK; rw [if_neg (by omega), if_pos hf])
    clear hf
    go_enter Tryz.func7, Tryz.ntmps7
    go_wp2_with (go_at_call 20; ((with_reducible refine (HF.out _).mono ?_); rintro e w1 ⟨rfl, hb⟩; replace HB := Lib.hid (after HB.out hb); clear hb))
    go_ret2
    rw [HE.out]
    exact ⟨rfl, HB.out⟩
  · rw [hf] at HF
    by_cases hv : (valK kind f t).2 = 0
    · obtain ⟨hok, hv1⟩ := valK_ok h2 h9 hv
      have hI2 := fits_imm hf hok
      have hI := fits_isI hf
      have hnb := numK_b kind f t f0 f1 t0 t1
      have hwr : wrap64 (numK kind f t % 18446744073709551616) = numK kind f t := by unfold wrap64; omega
      have hib := readW_inB x hx
      have hib2 : InB { readW x with imm := numK kind f t } := ⟨hib.op, hib.d, hib.n, hib.m, hib.a, hnb, hib.mask, hib.shift, hib.amount, hib.cond⟩
      have HD : Hid (∀ w, Calls Tryz.prog 21 #[.int .u32 x] w (RetB (.tuple #[inV (readW x), .int .i64 0]) w)) := Lib.hid fun w => by
        have := RDecode_any x hx w
        rwa [show dI x = (readW x, 0) from by unfold dI; rw [hI]; rfl] at this
      have HEn : Hid (∀ w, Calls Tryz.prog 22 #[inV { readW x with imm := wrap64 (numK kind f t % 18446744073709551616) }] w (RetB (.tuple #[.int .u32 (wordK kind x f t).1, .int .i64 (wordK kind x f t).2]) w)) := Lib.hid fun w => by
        have := REncode_any _ w hib2
        rw [show encP { readW x with imm := numK kind f t } = wordK kind x f t from by unfold encP wordK; rw [if_pos hI2, if_neg (by omega), if_neg (by rw [hf]; decide), if_neg (by rw [hv]; decide)]] at this
        rw [hwr]; exact this
      have e : valK kind f t = (numK kind f t % 18446744073709551616, 0) := by rw [← hv1, ← hv]
      have HZ : Hid ((wordK kind x f t).2 = 0) := Lib.hid (by unfold wordK; rw [if_neg (by omega), if_neg (by rw [hf]; decide), if_neg (by rw [hv]; decide)])
      rw [e] at HV
      have hvb : 0 ≤ numK kind f t % 18446744073709551616 ∧ numK kind f t % 18446744073709551616 < 18446744073709551616 := by omega
      generalize wordK kind x f t = out at *
      obtain ⟨o1, o2⟩ := out
      generalize numK kind f t % 18446744073709551616 = v at *
      obtain ⟨v0, v1⟩ := hvb
      clear hf hv hv1 hI hI2 hnb hwr hib hib2 e hok
      generalize readW x = i at *
      obtain ⟨o, d, n, m, a, y, kk, hh, tt, c⟩ := i
      simp only [] at HEn HZ
      go_enter Tryz.func7, Tryz.ntmps7
      go_wp2_with (first
        | (go_at_call 20; ((with_reducible refine (HF.out _).mono ?_); rintro e w1 ⟨rfl, hb⟩; replace HB := Lib.hid (after HB.out hb); clear hb))
        | (go_at_call 5; ((with_reducible refine (HV.out _).mono ?_); rintro e w' ⟨rfl, rfl⟩))
        | (go_at_call 21; ((with_reducible refine (HD.out _).mono ?_); rintro e w1 ⟨rfl, hb⟩; replace HB := Lib.hid (after HB.out hb); clear hb))
        | (go_at_call 22; ((with_reducible refine (HEn.out _).mono ?_); rintro e w1 ⟨rfl, hb⟩; replace HB := Lib.hid (after (bel_alloc HB.out _) hb); clear hb)))
      go_ret2
      exact retB_two (by rw [HZ.out]) HB.out
    · obtain ⟨hv1, hv2⟩ := valK_err h2 h9 hv
      have HE : Hid (wordK kind x f t = (0, (valK kind f t).2)) := Lib.hid (by unfold wordK; rw [if_neg (by omega), if_neg (by rw [hf]; decide), if_pos hv])
      have e : valK kind f t = (0, (valK kind f t).2) := by rw [← hv1]
      rw [e] at HV
      generalize (valK kind f t).2 = er at *
      have q : (er != 0) = true := by rw [bne_iff_ne]; exact hv
      clear hf hv hv1 e hv2
      go_enter Tryz.func7, Tryz.ntmps7
      go_wp2_with (first
        | (go_at_call 20; ((with_reducible refine (HF.out _).mono ?_); rintro e w1 ⟨rfl, hb⟩; replace HB := Lib.hid (after HB.out hb); clear hb))
        | (go_at_call 5; ((with_reducible refine (HV.out _).mono ?_); rintro e w' ⟨rfl, rfl⟩)))
      go_ret2
      rw [HE.out]
      exact ⟨rfl, HB.out⟩

theorem cov_iff (k : Int) (n : Nat) : covK k n = false ↔ (k < 1 ∨ 9 < k ∨ (n : Int) ≠ (if k = 1 then 8 else 4)) := by
  unfold covK
  by_cases h : 1 ≤ k ∧ k ≤ 9
  · rw [decide_eq_true h, Bool.true_and]
    by_cases e : k = 1
    · rw [if_pos e, if_pos e, beq_eq_false_iff_ne]; omega
    · rw [if_neg e, if_neg e, beq_eq_false_iff_ne]; omega
  · rw [decide_eq_false h, Bool.false_and]
    simp; omega
set_option maxRecDepth 100000 in
set_option maxHeartbeats 8000000 in
theorem rApply_any (kind : Int) (D : ByteArray) (f t : Nat) (w : World) (hD : D.size ≤ 9223372036854775807) (f1 : f < 18446744073709551616) (t1 : t < 18446744073709551616) :
    Calls Tryz.prog 9 #[.int .i64 kind, .string D, .int .u64 f, .int .u64 t] w (RetB (.tuple #[sl (applyK kind D.data.toList f t).1, .int .i64 (applyK kind D.data.toList f t).2]) w) := by
  have HS : Hid (∀ w, Calls Tryz.prog 26 #[.int .i64 kind] w (Ret (.int .i64 (if kind = 1 then 8 else 4)) w)) := Lib.hid fun w => rSize_any kind w
  have HB := Lib.hid (Below.refl w.heap.size w)
  have hl : D.data.toList.length = D.size := Array.length_toList
  cases hc : covK kind D.size
  · have HE : Hid (applyK kind D.data.toList f t = ([], 1)) := Lib.hid (by unfold applyK; rw [hl, if_pos hc])
    have hco := (cov_iff kind D.size).1 hc
    clear hl hc
    generalize (if kind = 1 then (8 : Int) else 4) = z at *
    by_cases h1 : kind < 1
    · clear hco
      go_enter Tryz.func9, Tryz.ntmps9
      go_wp2
      go_ret2
      rw [HE.out]
      exact ⟨rfl, HB.out⟩
    by_cases h9 : 9 < kind
    · clear hco
      go_enter Tryz.func9, Tryz.ntmps9
      go_wp2
      go_ret2
      rw [HE.out]
      exact ⟨rfl, HB.out⟩
    have hz : (D.size : Int) ≠ z := (hco.resolve_left h1).resolve_left h9
    have q : ((D.size : Int) == z) = false := by rw [beq_eq_false_iff_ne]; exact hz
    have q2 : ((D.size : Int) != z) = true := by rw [bne_iff_ne]; exact hz
    clear hco hz
    go_enter Tryz.func9, Tryz.ntmps9
    go_wp2_with (go_at_call 26; ((with_reducible refine (HS.out _).mono ?_); rintro e w' ⟨rfl, rfl⟩))
    go_ret2
    rw [HE.out]
    exact ⟨rfl, HB.out⟩
  · obtain ⟨c1, c9, ce, cn⟩ := cov_range hc
    have hz : (D.size : Int) = (if kind = 1 then 8 else 4) := by
      apply Classical.byContradiction; intro h
      have := (cov_iff kind D.size).2 (.inr (.inr h))
      rw [hc] at this; cases this
    rw [← hz] at HS
    have d0 : (0 : Int) ≤ D.size := by omega
    by_cases hk : kind = 1
    · have HE : Hid (applyK kind D.data.toList f t = (leB 8 t, 0)) := Lib.hid (by unfold applyK; rw [hl, if_neg (by rw [hc]; decide), if_pos hk])
      have HY : Hid (∀ w, Calls Tryz.prog 27 #[.int .u64 (t : Int), .int .i64 8] w (RetB (sl (leB 8 t)) w)) := Lib.hid fun w => rBytes_any t 8 w t1 (by decide)
      clear ce cn hc hl hz
      subst hk
      go_enter Tryz.func9, Tryz.ntmps9
      go_wp2_with (first
        | (go_at_call 26; ((with_reducible refine (HS.out _).mono ?_); rintro e w' ⟨rfl, rfl⟩))
        | (go_at_call 27; ((with_reducible refine (HY.out _).mono ?_); rintro e w1 ⟨rfl, hb⟩; replace HB := Lib.hid (after HB.out hb); clear hb)))
      go_ret2
      rw [HE.out]
      exact ⟨rfl, HB.out⟩
    · have h4 := cn hk
      have HN : Hid (∀ w, Calls Tryz.prog 28 #[.string D] w (RetD (.int .u64 ((leV D.data.toList : Nat) : Int)) w)) := Lib.hid fun w => refNumber_any D w (by omega)
      have hlt := leV_lt D.data.toList
      rw [hl, h4] at hlt
      have q : (kind == 1) = false := by rw [beq_eq_false_iff_ne]; exact hk
      have HA : Hid (applyK kind D.data.toList f t = if (wordK kind (leV D.data.toList) f t).2 ≠ 0 then ([], (wordK kind (leV D.data.toList) f t).2) else (leB 4 (wordK kind (leV D.data.toList) f t).1.toNat, 0)) := Lib.hid (by unfold applyK; rw [hl, if_neg (by rw [hc]; decide), if_neg hk])
      have hx : leV D.data.toList < 4294967296 := hlt
      generalize leV D.data.toList = x at *
      have HW : Hid (∀ w, Calls Tryz.prog 7 #[.int .i64 kind, .int .u32 (x : Int), .int .u64 f, .int .u64 t] w (RetB (two .u32 .i64 (wordK kind x f t)) w)) := Lib.hid fun w => rWord_any kind f t x w hx (by omega) (by omega) (by omega) (by omega)
      have hwb : 0 ≤ (wordK kind x f t).1 ∧ (wordK kind x f t).1 < 4294967296 := by
        unfold wordK
        split
        · simp
        · split
          · simp
          · rename_i hf
            split
            · simp
            · rename_i hv
              have hf2 : fitsI kind (readW x) = true := by simpa using hf
              have hok := (valK_ok (f := f) (t := t) (by omega) c9 (by simpa using hv)).1
              obtain ⟨-, -, -, -, h5, -, -⟩ := encW_spec _ (fits_imm hf2 hok) (readW_inB x hx).mask
              simp only []; omega
      by_cases he : (wordK kind x f t).2 = 0
      · have HE : Hid (applyK kind D.data.toList f t = (leB 4 (wordK kind x f t).1.toNat, 0)) := Lib.hid (by rw [HA.out, if_neg (by rw [he]; decide)])
        obtain ⟨y, hy⟩ := Int.eq_ofNat_of_zero_le hwb.1
        have hp : wordK kind x f t = ((y : Int), 0) := by rw [← hy, ← he]
        rw [hp] at HW
        rw [hy, Int.toNat_natCast] at HE
        have y1 : y < 4294967296 := by omega
        have HY : Hid (∀ w, Calls Tryz.prog 27 #[.int .u64 (y : Int), .int .i64 4] w (RetB (sl (leB 4 y)) w)) := Lib.hid fun w => rBytes_any y 4 w (by omega) (by decide)
        clear HA hp hy he hwb hlt ce cn hc hl hk h4 hz
        go_enter Tryz.func9, Tryz.ntmps9
        go_wp2_with (first
          | (go_at_call 26; ((with_reducible refine (HS.out _).mono ?_); rintro e w' ⟨rfl, rfl⟩))
          | (go_at_call 28; ((with_reducible refine (HN.out _).mono ?_); rintro e w1 ⟨rfl, mm, rfl⟩; replace HB := Lib.hid (below_drewN HB.out mm)))
          | (go_at_call 7; ((with_reducible refine (HW.out _).mono ?_); rintro e w1 ⟨rfl, hb⟩; replace HB := Lib.hid (after HB.out hb); clear hb))
          | (go_at_call 27; ((with_reducible refine (HY.out _).mono ?_); rintro e w1 ⟨rfl, hb⟩; replace HB := Lib.hid (after HB.out hb); clear hb)))
        go_ret2
        rw [HE.out]
        exact ⟨rfl, HB.out⟩
      · have HE : Hid (applyK kind D.data.toList f t = ([], (wordK kind x f t).2)) := Lib.hid (by rw [HA.out, if_pos he])
        generalize wordK kind x f t = p at *
        obtain ⟨p1, p2⟩ := p
        simp only [] at HE he
        have q2 : (p2 != 0) = true := by rw [bne_iff_ne]; exact he
        clear HA he hwb hlt ce cn hc hl hk h4 hz
        go_enter Tryz.func9, Tryz.ntmps9
        go_wp2_with (first
          | (go_at_call 26; ((with_reducible refine (HS.out _).mono ?_); rintro e w' ⟨rfl, rfl⟩))
          | (go_at_call 28; ((with_reducible refine (HN.out _).mono ?_); rintro e w1 ⟨rfl, mm, rfl⟩; replace HB := Lib.hid (below_drewN HB.out mm)))
          | (go_at_call 7; ((with_reducible refine (HW.out _).mono ?_); rintro e w1 ⟨rfl, hb⟩; replace HB := Lib.hid (after HB.out hb); clear hb)))
        go_ret2
        rw [HE.out]
        exact ⟨rfl, HB.out⟩

theorem zero_no : isI (readW 0) = false := by decide +kernel
set_option maxRecDepth 100000 in
set_option maxHeartbeats 8000000 in
theorem rGoal_no (kind : Int) (D : ByteArray) (f : Int) (w : World) (hD : D.size ≤ 9223372036854775807) (h : covK kind D.size = false ∨ 7 ≤ kind) :
    Calls Tryz.prog 11 #[.int .i64 kind, .string D, .int .u64 f] w (Ret (two .u64 .i64 (0, 1)) w) := by
  have HS : Hid (∀ w, Calls Tryz.prog 26 #[.int .i64 kind] w (Ret (.int .i64 (if kind = 1 then 8 else 4)) w)) := Lib.hid fun w => rSize_any kind w
  have hco : kind < 1 ∨ 6 < kind ∨ (D.size : Int) ≠ (if kind = 1 then 8 else 4) := by
    rcases h with h | h
    · rcases (cov_iff kind D.size).1 h with h | h | h
      · exact .inl h
      · exact .inr (.inl (by omega))
      · exact .inr (.inr h)
    · exact .inr (.inl (by omega))
  clear h
  generalize (if kind = 1 then (8 : Int) else 4) = z at *
  by_cases h1 : kind < 1
  · clear hco
    go_enter Tryz.func11, Tryz.ntmps11
    go_wp2
    go_ret2
    exact ⟨rfl, rfl⟩
  by_cases h9 : 6 < kind
  · clear hco
    go_enter Tryz.func11, Tryz.ntmps11
    go_wp2
    go_ret2
    exact ⟨rfl, rfl⟩
  have hz : (D.size : Int) ≠ z := (hco.resolve_left h1).resolve_left h9
  have q : ((D.size : Int) == z) = false := by rw [beq_eq_false_iff_ne]; exact hz
  have q2 : ((D.size : Int) != z) = true := by rw [bne_iff_ne]; exact hz
  clear hco hz
  go_enter Tryz.func11, Tryz.ntmps11
  go_wp2_with (go_at_call 26; ((with_reducible refine (HS.out _).mono ?_); rintro e w' ⟨rfl, rfl⟩))
  go_ret2
  exact ⟨rfl, rfl⟩
set_option maxRecDepth 100000 in
set_option maxHeartbeats 8000000 in
theorem rGoal_any (kind : Int) (D : ByteArray) (f : Int) (w : World) (hD : D.size ≤ 9223372036854775807) (f0 : 0 ≤ f) (f1 : f < 18446744073709551616) :
    Calls Tryz.prog 11 #[.int .i64 kind, .string D, .int .u64 f] w (RetB (two .u64 .i64 (goalK kind D.data.toList f)) w) := by
  have hl : D.data.toList.length = D.size := Array.length_toList
  by_cases hno : covK kind D.size = false ∨ 7 ≤ kind
  · rw [show goalK kind D.data.toList f = (0, 1) from by unfold goalK; rw [hl, if_pos hno]]
    exact (rGoal_no kind D f w hD hno).mono fun _ _ ⟨h1, h2⟩ => ⟨h1, h2 ▸ Below.refl _ _⟩
  have hc : covK kind D.size = true := by
    cases h : covK kind D.size
    · exact (hno (.inl h)).elim
    · rfl
  have h6 : ¬ 7 ≤ kind := fun h => hno (.inr h)
  have hz : (D.size : Int) = (if kind = 1 then 8 else 4) := by
    apply Classical.byContradiction; intro h
    have := (cov_iff kind D.size).2 (.inr (.inr h))
    rw [hc] at this; cases this
  have HS : Hid (∀ w, Calls Tryz.prog 26 #[.int .i64 kind] w (Ret (.int .i64 (D.size : Int)) w)) := Lib.hid fun w => by rw [hz]; exact rSize_any kind w
  have HB := Lib.hid (Below.refl w.heap.size w)
  obtain ⟨c1, c9, ce, cn⟩ := cov_range hc
  by_cases hk : kind = 1
  · have HE : Hid (goalK kind D.data.toList f = (((leV D.data.toList : Nat) : Int), 0)) := Lib.hid (by unfold goalK; rw [hl, if_neg hno, if_pos hk])
    have HN : Hid (∀ w, Calls Tryz.prog 28 #[.string D] w (RetD (.int .u64 ((leV D.data.toList : Nat) : Int)) w)) := Lib.hid fun w => refNumber_any D w (by have := ce hk; omega)
    generalize leV D.data.toList = x at *
    clear ce cn hc hl hno hz
    subst hk
    go_enter Tryz.func11, Tryz.ntmps11
    go_wp2_with (first
      | (go_at_call 26; ((with_reducible refine (HS.out _).mono ?_); rintro e w' ⟨rfl, rfl⟩))
      | (go_at_call 28; ((with_reducible refine (HN.out _).mono ?_); rintro e w1 ⟨rfl, mm, rfl⟩; replace HB := Lib.hid (below_drewN HB.out mm))))
    go_ret2
    rw [HE.out]
    exact ⟨rfl, HB.out⟩
  · have h4 := cn hk
    have HN : Hid (∀ w, Calls Tryz.prog 28 #[.string D] w (RetD (.int .u64 ((leV D.data.toList : Nat) : Int)) w)) := Lib.hid fun w => refNumber_any D w (by omega)
    have hlt := leV_lt D.data.toList
    rw [hl, h4] at hlt
    have q : (kind == 1) = false := by rw [beq_eq_false_iff_ne]; exact hk
    have HA : Hid (goalK kind D.data.toList f = if (isI (readW (leV D.data.toList)) && fitsI kind { readW (leV D.data.toList) with imm := 0 }) = false then (0, 11)
      else if kind = 6 then ((f - f % 4096 + 4096 * (readW (leV D.data.toList)).imm) % 18446744073709551616, 0) else ((f + (readW (leV D.data.toList)).imm) % 18446744073709551616, 0)) := Lib.hid (by unfold goalK; rw [hl, if_neg hno, if_neg hk])
    have hx : leV D.data.toList < 4294967296 := hlt
    generalize leV D.data.toList = x at *
    have hib := readW_inB x hx
    have HD : Hid (∀ w, Calls Tryz.prog 21 #[.int .u32 (x : Int)] w (RetB (out2 (dI x)) w)) := Lib.hid fun w => RDecode_any x hx w
    clear ce cn hc hl hno h4 hlt hz
    cases hI : isI (readW x)
    · have HE : Hid (goalK kind D.data.toList f = (0, 11)) := Lib.hid (by rw [HA.out, hI]; rfl)
      rw [show dI x = (inZ, 11) from by unfold dI; rw [hI]; rfl] at HD
      clear hI HA hib hk
      go_enter Tryz.func11, Tryz.ntmps11
      go_wp2_with (first
        | (go_at_call 26; ((with_reducible refine (HS.out _).mono ?_); rintro e w' ⟨rfl, rfl⟩))
        | (go_at_call 28; ((with_reducible refine (HN.out _).mono ?_); rintro e w1 ⟨rfl, mm, rfl⟩; replace HB := Lib.hid (below_drewN HB.out mm)))
        | (go_at_call 21; ((with_reducible refine (HD.out _).mono ?_); rintro e w1 ⟨rfl, hb⟩; replace HB := Lib.hid (after HB.out hb); clear hb)))
      go_ret2
      rw [HE.out]
      exact ⟨rfl, bel_alloc HB.out _⟩
    · rw [show dI x = (readW x, 0) from by unfold dI; rw [hI]; rfl] at HD
      rw [hI] at HA
      generalize readW x = i at *
      have hi2 : InB { i with imm := 0 } := ⟨hib.op, hib.d, hib.n, hib.m, hib.a, ⟨by simp, by simp⟩, hib.mask, hib.shift, hib.amount, hib.cond⟩
      obtain ⟨e1, e2, hE, hF⟩ : ∃ (e1 : Nat) (e2 : Int), (∀ w, Calls Tryz.prog 22 #[inV { i with imm := 0 }] w (RetB (.tuple #[.int .u32 (e1 : Int), .int .i64 e2]) w)) ∧ (∀ w, Calls Tryz.prog 20 #[.int .i64 kind, .int .u32 (e1 : Int)] w (RetB (.bool (fitsI kind { i with imm := 0 })) w)) := by
        cases hI2 : isI { i with imm := 0 }
        · refine ⟨0, 1, fun w => ?_, fun w => ?_⟩
          · have := REncode_any _ w hi2
            rwa [show encP { i with imm := 0 } = (0, 1) from by unfold encP; rw [hI2]; rfl] at this
          · have := rFits_any kind 0 w (by decide)
            rw [show fitsI kind (readW 0) = false from by unfold fitsI; rw [zero_no]; rfl] at this
            rw [show fitsI kind { i with imm := 0 } = false from by unfold fitsI; rw [hI2]; rfl]
            exact this
        · obtain ⟨-, hr, -⟩ := dI_enc hI2 hi2.mask
          obtain ⟨-, -, -, -, hlt, -, -⟩ := encW_spec _ hI2 hi2.mask
          refine ⟨encW { i with imm := 0 }, 0, fun w => ?_, fun w => ?_⟩
          · have := REncode_any _ w hi2
            rwa [show encP { i with imm := 0 } = (((encW { i with imm := 0 } : Nat) : Int), 0) from by unfold encP; rw [hI2]; rfl] at this
          · have := rFits_any kind (encW { i with imm := 0 }) w hlt
            rwa [hr] at this
      have HEn := Lib.hid hE
      have HF := Lib.hid hF
      clear hE hF hi2
      cases hf : fitsI kind { i with imm := 0 }
      · have HE : Hid (goalK kind D.data.toList f = (0, 11)) := Lib.hid (by rw [HA.out, hf]; rfl)
        rw [hf] at HF
        clear hI HA hib hf hk
        obtain ⟨o, d, n, m, a, y, kk, hh, tt, c⟩ := i
        simp only [] at HEn
        go_enter Tryz.func11, Tryz.ntmps11
        go_wp2_with (first
          | (go_at_call 26; ((with_reducible refine (HS.out _).mono ?_); rintro e w' ⟨rfl, rfl⟩))
          | (go_at_call 28; ((with_reducible refine (HN.out _).mono ?_); rintro e w1 ⟨rfl, mm, rfl⟩; replace HB := Lib.hid (below_drewN HB.out mm)))
          | (go_at_call 21; ((with_reducible refine (HD.out _).mono ?_); rintro e w1 ⟨rfl, hb⟩; replace HB := Lib.hid (after HB.out hb); clear hb))
          | (go_at_call 22; ((with_reducible refine (HEn.out _).mono ?_); rintro e w1 ⟨rfl, hb⟩; replace HB := Lib.hid (after (bel_alloc (bel_alloc HB.out _) _) hb); clear hb))
          | (go_at_call 20; ((with_reducible refine (HF.out _).mono ?_); rintro e w1 ⟨rfl, hb⟩; replace HB := Lib.hid (after HB.out hb); clear hb)))
        go_ret2
        rw [HE.out]
        exact ⟨rfl, HB.out⟩
      · have hib6 := hib.imm
        rw [hf] at HF
        by_cases h6' : kind = 6
        · have HE : Hid (goalK kind D.data.toList f = ((f - f % 4096 + 4096 * i.imm) % 18446744073709551616, 0)) := Lib.hid (by rw [HA.out, hf, if_neg (by decide), if_pos h6'])
          subst h6'
          clear hI HA hib hf hk
          obtain ⟨o, d, n, m, a, y, kk, hh, tt, c⟩ := i
          simp only [] at HE hib6 HEn
          unfold i64B at hib6
          have hpb : 0 ≤ f - f % 4096 ∧ f - f % 4096 < 18446744073709551616 := by omega
          go_enter Tryz.func11, Tryz.ntmps11
          go_wp2_with (first
            | (go_at_call 26; ((with_reducible refine (HS.out _).mono ?_); rintro e w' ⟨rfl, rfl⟩))
            | (go_at_call 28; ((with_reducible refine (HN.out _).mono ?_); rintro e w1 ⟨rfl, mm, rfl⟩; replace HB := Lib.hid (below_drewN HB.out mm)))
            | (go_at_call 21; ((with_reducible refine (HD.out _).mono ?_); rintro e w1 ⟨rfl, hb⟩; replace HB := Lib.hid (after HB.out hb); clear hb))
            | (go_at_call 22; ((with_reducible refine (HEn.out _).mono ?_); rintro e w2 ⟨rfl, hb⟩; have x5 := (hb.cell (p := ⟨w1.heap.size, 5, none⟩) (by simp; omega)).trans ((World.cell?_alloc_past (w := w1.alloc (.cells #[.int .i64 o, .int .i64 d, .int .i64 n, .int .i64 m, .int .i64 a, .int .i64 y, .int .u64 kk, .int .i64 hh, .int .i64 tt, .int .i64 c] 44)) _ w1.heap.size 5 (by simp)).trans (cel (j := 5) (MapKept.heap_alloc w1 _).1)); replace HB := Lib.hid (after (bel_alloc (bel_alloc HB.out _) _) hb)))
            | (go_at_call 20; ((with_reducible refine (HF.out _).mono ?_); rintro e w3 ⟨rfl, hb3⟩; have x6 := (hb3.cell (p := ⟨w1.heap.size, 5, none⟩) (by have := hb.size; simp at this; show w1.heap.size < w2.heap.size; omega)).trans x5; replace HB := Lib.hid (after HB.out hb3); clear hb hb3 x5)))
          go_ret2
          exact retB_two (a := IntKind.u64.wrap (f - f % 4096 + IntKind.u64.wrap (4096 * IntKind.u64.wrap y))) (b := 0) (by rw [HE.out]; simp only [IntKind.wrap_u64]; congr 1; omega) HB.out
        · have q6 : (kind == 6) = false := by rw [beq_eq_false_iff_ne]; exact h6'
          have HE : Hid (goalK kind D.data.toList f = ((f + i.imm) % 18446744073709551616, 0)) := Lib.hid (by rw [HA.out, hf, if_neg (by decide), if_neg h6'])
          clear hI HA hib hf hk h6'
          obtain ⟨o, d, n, m, a, y, kk, hh, tt, c⟩ := i
          simp only [] at HE hib6 HEn
          unfold i64B at hib6
          go_enter Tryz.func11, Tryz.ntmps11
          go_wp2_with (first
            | (go_at_call 26; ((with_reducible refine (HS.out _).mono ?_); rintro e w' ⟨rfl, rfl⟩))
            | (go_at_call 28; ((with_reducible refine (HN.out _).mono ?_); rintro e w1 ⟨rfl, mm, rfl⟩; replace HB := Lib.hid (below_drewN HB.out mm)))
            | (go_at_call 21; ((with_reducible refine (HD.out _).mono ?_); rintro e w1 ⟨rfl, hb⟩; replace HB := Lib.hid (after HB.out hb); clear hb))
            | (go_at_call 22; ((with_reducible refine (HEn.out _).mono ?_); rintro e w2 ⟨rfl, hb⟩; have x5 := (hb.cell (p := ⟨w1.heap.size, 5, none⟩) (by simp; omega)).trans ((World.cell?_alloc_past (w := w1.alloc (.cells #[.int .i64 o, .int .i64 d, .int .i64 n, .int .i64 m, .int .i64 a, .int .i64 y, .int .u64 kk, .int .i64 hh, .int .i64 tt, .int .i64 c] 44)) _ w1.heap.size 5 (by simp)).trans (cel (j := 5) (MapKept.heap_alloc w1 _).1)); replace HB := Lib.hid (after (bel_alloc (bel_alloc HB.out _) _) hb)))
            | (go_at_call 20; ((with_reducible refine (HF.out _).mono ?_); rintro e w3 ⟨rfl, hb3⟩; have x6 := (hb3.cell (p := ⟨w1.heap.size, 5, none⟩) (by have := hb.size; simp at this; show w1.heap.size < w2.heap.size; omega)).trans x5; replace HB := Lib.hid (after HB.out hb3); clear hb hb3 x5)))
          go_ret2
          exact retB_two (a := IntKind.u64.wrap (f + IntKind.u64.wrap y)) (b := 0) (by rw [HE.out]; simp only [IntKind.wrap_u64]; congr 1; omega) HB.out

set_option maxRecDepth 100000 in
set_option maxHeartbeats 8000000 in
theorem FixDoes_nat (kind : Int) (x0 : Nat) (D : ByteArray) (f t : Nat) (w : World) (k0 : -9223372036854775808 ≤ kind) (k1 : kind ≤ 9223372036854775807) (hx : x0 < 4294967296) (hD : D.size ≤ 9223372036854775807) (f1 : f < 18446744073709551616) (t1 : t < 18446744073709551616) (hw : Tab7 w) :
    Calls Tryz.prog 3 #[.int .i64 kind, .int .u32 (x0 : Int), .string D, .int .u64 (f : Int), .int .u64 (t : Int)] w (RetB (.bool true) w) := by
  have HT := Lib.hid hw
  have HB := Lib.hid (Below.refl w.heap.size w)
  have HF : Hid (∀ w, Tab7 w → Calls Tryz.prog 12 #[] w (RetB (.bool true) w)) := Lib.hid fun w h => fixed_any w h
  by_cases h40 : 40 < D.size
  · clear hw
    go_enter Tryz.func3, Tryz.ntmps3
    go_wp2
    go_ret
    exact retB_bool rfl HB.out
  have f0 : (0 : Int) ≤ f := by omega
  have t0 : (0 : Int) ≤ t := by omega
  have f2 : (f : Int) < 18446744073709551616 := by omega
  have t2 : (t : Int) < 18446744073709551616 := by omega
  have HV : Hid (∀ w, Calls Tryz.prog 4 #[.int .i64 kind, .int .u64 (f : Int), .int .u64 (t : Int)] w (RetB (two .u64 .i64 (valK kind f t)) w)) := Lib.hid fun w => Value_any kind f t w k0 k1 f0 f2 t0 t2
  have RV : Hid (∀ w, Calls Tryz.prog 5 #[.int .i64 kind, .int .u64 (f : Int), .int .u64 (t : Int)] w (Ret (two .u64 .i64 (valK kind f t)) w)) := Lib.hid fun w => rValue_any kind f t w f0 f2 t0 t2
  have HW : Hid (∀ w, Tab7 w → Calls Tryz.prog 6 #[.int .i64 kind, .int .u32 (x0 : Int), .int .u64 (f : Int), .int .u64 (t : Int)] w (RetB (two .u32 .i64 (wordK kind x0 f t)) w)) := Lib.hid fun w h => Word_any kind f t x0 w k0 k1 hx f0 f2 t0 t2 h
  have RW : Hid (∀ w, Calls Tryz.prog 7 #[.int .i64 kind, .int .u32 (x0 : Int), .int .u64 (f : Int), .int .u64 (t : Int)] w (RetB (two .u32 .i64 (wordK kind x0 f t)) w)) := Lib.hid fun w => rWord_any kind f t x0 w hx f0 f2 t0 t2
  have hA : ∀ w, Tab7 w → Calls Tryz.prog 8 #[.int .i64 kind, .string D, .int .u64 (f : Int), .int .u64 (t : Int)] w (RetB (.tuple #[sl (applyK kind D.data.toList f t).1, .int .i64 (applyK kind D.data.toList f t).2]) w) := fun w h => Apply_any kind D f t w k0 k1 hD f1 t1 h
  have rA : ∀ w, Calls Tryz.prog 9 #[.int .i64 kind, .string D, .int .u64 (f : Int), .int .u64 (t : Int)] w (RetB (.tuple #[sl (applyK kind D.data.toList f t).1, .int .i64 (applyK kind D.data.toList f t).2]) w) := fun w => rApply_any kind D f t w hD f1 t1
  have hG : ∀ w, Tab7 w → Calls Tryz.prog 10 #[.int .i64 kind, .string D, .int .u64 (f : Int)] w (RetB (two .u64 .i64 (goalK kind D.data.toList f)) w) := fun w h => Goal_any kind D f w k0 k1 hD f0 f2 h
  have rG : ∀ w, Calls Tryz.prog 11 #[.int .i64 kind, .string D, .int .u64 (f : Int)] w (RetB (two .u64 .i64 (goalK kind D.data.toList f)) w) := fun w => rGoal_any kind D f w hD f0 f2
  generalize valK kind f t = v at *
  generalize wordK kind x0 f t = y at *
  generalize goalK kind D.data.toList f = g at *
  obtain ⟨S, hS⟩ : ∃ S : ByteArray, S = ⟨(applyK kind D.data.toList f t).1.toArray⟩ := ⟨_, rfl⟩
  obtain ⟨e, he⟩ : ∃ e : Int, e = (applyK kind D.data.toList f t).2 := ⟨_, rfl⟩
  have HA : Hid (∀ w, Tab7 w → Calls Tryz.prog 8 #[.int .i64 kind, .string D, .int .u64 (f : Int), .int .u64 (t : Int)] w (RetB (.tuple #[.string S, .int .i64 e]) w)) := Lib.hid (by rw [hS, he]; exact hA)
  have RA : Hid (∀ w, Calls Tryz.prog 9 #[.int .i64 kind, .string D, .int .u64 (f : Int), .int .u64 (t : Int)] w (RetB (.tuple #[.string S, .int .i64 e]) w)) := Lib.hid (by rw [hS, he]; exact rA)
  have HG := Lib.hid hG
  have RG := Lib.hid rG
  clear hA rA hG rG hS he hw f0 t0 f1 t1 f2 t2 hx k0 k1
  obtain ⟨v1, v2⟩ := v
  obtain ⟨y1, y2⟩ := y
  obtain ⟨g1, g2⟩ := g
  go_enter Tryz.func3, Tryz.ntmps3
  go_wp2_with (first
    | (go_at_call 4; ((with_reducible refine (HV.out _).mono ?_); rintro e w1 ⟨rfl, hb⟩; replace HB := Lib.hid (after HB.out hb); clear hb))
    | (go_at_call 5; ((with_reducible refine (RV.out _).mono ?_); rintro e w' ⟨rfl, rfl⟩))
    | (go_at_call 6; ((with_reducible refine (HW.out _ (HT.out.below HB.out)).mono ?_); rintro e w1 ⟨rfl, hb⟩; replace HB := Lib.hid (after HB.out hb); clear hb))
    | (go_at_call 7; ((with_reducible refine (RW.out _).mono ?_); rintro e w1 ⟨rfl, hb⟩; replace HB := Lib.hid (after HB.out hb); clear hb))
    | (go_at_call 8; ((with_reducible refine (HA.out _ (HT.out.below HB.out)).mono ?_); rintro e w1 ⟨rfl, hb⟩; replace HB := Lib.hid (after HB.out hb); clear hb))
    | (go_at_call 9; ((with_reducible refine (RA.out _).mono ?_); rintro e w1 ⟨rfl, hb⟩; replace HB := Lib.hid (after HB.out hb); clear hb))
    | (go_at_call 10; ((with_reducible refine (HG.out _ (HT.out.below HB.out)).mono ?_); rintro e w1 ⟨rfl, hb⟩; replace HB := Lib.hid (after HB.out hb); clear hb))
    | (go_at_call 11; ((with_reducible refine (RG.out _).mono ?_); rintro e w1 ⟨rfl, hb⟩; replace HB := Lib.hid (after HB.out hb); clear hb))
    | (go_at_call 12; ((with_reducible refine (HF.out _ (HT.out.below HB.out)).mono ?_); rintro e w1 ⟨rfl, hb⟩; replace HB := Lib.hid (after HB.out hb); clear hb)))
  go_ret
  exact retB_bool (by simp) HB.out
theorem FixDoes_walk (kind : Int) (hk : -9223372036854775808 ≤ kind ∧ kind ≤ 9223372036854775807) (x : Int) (hx : 0 ≤ x ∧ x < 4294967296) (D : ByteArray) (hD : D.size ≤ maxLen) (f : Int) (hf : 0 ≤ f ∧ f < 18446744073709551616) (t : Int) (ht : 0 ≤ t ∧ t < 18446744073709551616) (w : World) (hw : Tab7 w) :
    Calls Tryz.prog 3 #[.int .i64 kind, .int .u32 x, .string D, .int .u64 f, .int .u64 t] w (RetB (.bool true) w) := by
  obtain ⟨x0, rfl⟩ := Int.eq_ofNat_of_zero_le hx.1
  obtain ⟨f0, rfl⟩ := Int.eq_ofNat_of_zero_le hf.1
  obtain ⟨t0, rfl⟩ := Int.eq_ofNat_of_zero_le ht.1
  unfold maxLen at hD
  exact FixDoes_nat kind x0 D f0 t0 w hk.1 hk.2 (by omega) hD (by omega) (by omega) hw
end Go.Proofs.YtdeigbdcipkaaaaGreatDoor
