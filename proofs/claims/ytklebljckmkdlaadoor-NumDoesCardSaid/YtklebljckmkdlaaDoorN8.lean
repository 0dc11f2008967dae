/- num.Text, num.Hex, the document's rows. -/
import Derived.Test.YtklebljckmkdlaaDoorN7
namespace Go.Proofs.YtklebljckmkdlaaDoor
set_option linter.unusedVariables false
set_option linter.unusedSimpArgs false
open Go.RowKit

def textB (u : Nat) : ByteArray := ⟨(digL 10 u).toArray⟩
def hexB (u : Nat) : ByteArray := ⟨(48 :: 120 :: digL 16 u).toArray⟩
theorem hex_cat (u : Nat) : (⟨#[48, 120]⟩ : ByteArray) ++ ⟨(digL 16 u).toArray⟩ = hexB u := by
  unfold hexB
  rw [ByteArray.mk_append_mk]
  simp
theorem digL_len (b n : Nat) (hb : 2 ≤ b) (u : Nat) (h : u < b ^ (n + 1)) : (digL b u).length ≤ n + 1 := by
  induction n generalizing u with
  | zero => rw [digL_small (by simpa using h)]; simp
  | succ n ih =>
    by_cases c : u < b
    · rw [digL_small c]; simp
    · rw [digL_big (by omega) hb, List.length_append, List.length_singleton]
      have := ih (u / b) (Nat.div_lt_of_lt_mul (by rw [Nat.pow_succ] at h; rwa [Nat.mul_comm]))
      omega
theorem dig16_len (u : Nat) (h : u < 18446744073709551616) : (digL 16 u).length ≤ 16 := digL_len 16 15 (by decide) u (Nat.lt_of_lt_of_le h (by decide))
theorem dig10_len (u : Nat) (h : u < 18446744073709551616) : (digL 10 u).length ≤ 20 := digL_len 10 19 (by decide) u (Nat.lt_of_lt_of_le h (by decide))
set_option maxHeartbeats 400000 in
theorem fmt16_any (u : Nat) (w : World) (hu : u < 18446744073709551616) (hT : Tab w) :
    Calls Tryd.prog 30 #[.int .u64 u, .int .i64 16] w (RetB (.string ⟨(digL 16 u).toArray⟩) w) := by
  have HF : Hid (Calls Tryd.prog 35 #[.slice none 0 0, .int .u64 u, .int .i64 16, .bool false, .bool false] w (FmtPost u w)) := Lib.hid (fmtBits_any u w hu hT)
  clear hT
  go_enter Tryd.func30, Tryd.ntmps30
  go_wp2_with fail
  refine HF.out.mono ?_
  rintro e w1 ⟨rfl, hb⟩
  have HB := Lib.hid hb
  clear hb
  go_wp2
  go_ret
  exact ⟨rfl, HB.out⟩
theorem Text_any (u : Nat) (w : World) (hu : u < 18446744073709551616) (hT : Tab w) :
    Calls Tryd.prog 17 #[.int .u64 u] w (RetB (.string (textB u)) w) := by
  have HF : Hid (Calls Tryd.prog 30 #[.int .u64 u, .int .i64 10] w (RetB (.string (textB u)) w)) := Lib.hid (by
    have := fmt10_any u w hu hT.2.2
    rwa [decDigits_digL] at this)
  clear hT
  have HG : Hid (Calls Tryd.prog 27 #[.int .u64 u, .int .i64 10] w (RetB (.string (textB u)) w)) := Lib.hid (by
    go_enter Tryd.func27, Tryd.ntmps27
    go_wp2_with fail
    refine HF.out.mono ?_
    rintro e w1 ⟨rfl, hb⟩
    have HB := Lib.hid hb
    clear hb
    go_wp2
    go_ret
    exact ⟨rfl, HB.out⟩)
  go_enter Tryd.func17, Tryd.ntmps17
  go_wp2_with fail
  refine HG.out.mono ?_
  rintro e w1 ⟨rfl, hb⟩
  have HB := Lib.hid hb
  clear hb
  go_wp2
  go_ret
  exact ⟨rfl, HB.out⟩
theorem Hex_any (u : Nat) (w : World) (hu : u < 18446744073709551616) (hT : Tab w) :
    Calls Tryd.prog 19 #[.int .u64 u] w (RetB (.string (hexB u)) w) := by
  obtain ⟨D, hD, HF⟩ : ∃ D : ByteArray, D = ⟨(digL 16 u).toArray⟩ ∧ Hid (Calls Tryd.prog 30 #[.int .u64 u, .int .i64 16] w (RetB (.string D) w)) := ⟨_, rfl, Lib.hid (fmt16_any u w hu hT)⟩
  clear hT
  have HG : Hid (Calls Tryd.prog 27 #[.int .u64 u, .int .i64 16] w (RetB (.string D) w)) := Lib.hid (by
    clear hD
    go_enter Tryd.func27, Tryd.ntmps27
    go_wp2_with fail
    refine HF.out.mono ?_
    rintro e w1 ⟨rfl, hb⟩
    have HB := Lib.hid hb
    clear hb
    go_wp2
    go_ret
    exact ⟨rfl, HB.out⟩)
  have HE : Hid ((⟨#[48, 120]⟩ : ByteArray) ++ D = hexB u) := Lib.hid (by rw [hD]; exact hex_cat u)
  have hsz : D.size ≤ 16 := by rw [hD]; exact dig16_len u hu
  clear hD
  go_enter Tryd.func19, Tryd.ntmps19
  go_wp2_with fail
  refine HG.out.mono ?_
  rintro e w1 ⟨rfl, hb⟩
  have HB := Lib.hid hb
  clear hb
  go_wp2
  go_ret
  exact ⟨by rw [← HE.out]; rfl, HB.out⟩

theorem c_hex : digL 16 255 = [102, 102] := by rw [digL_big (by decide) (by decide), digL_small (by decide)]; decide
theorem c_text : digL 10 0 = [48] := by rw [digL_small (by decide)]; decide
theorem hexB_c : hexB 255 = ⟨#[48, 120, 102, 102]⟩ := by unfold hexB; rw [c_hex]
theorem textB_c : textB 0 = ⟨#[48]⟩ := by unfold textB; rw [c_text]
theorem val_a : valS [48, 120, 70, 102] = (255, 0) := by decide +kernel
theorem val_b : valS [48, 49, 56] = (18, 0) := by decide +kernel
theorem val_c : valS [49, 56, 52, 52, 54, 55, 52, 52, 48, 55, 51, 55, 48, 57, 53, 53, 49, 54, 49, 54] = (0, 4) := by decide +kernel
theorem val_d : valS [48, 120] = (0, 3) := by decide +kernel

set_option maxHeartbeats 1000000 in
theorem counted_any (w : World) (hT : Tab w) : Calls Tryd.prog 16 #[] w (RetB (.bool true) w) := by
  have HT := Lib.hid hT
  clear hT
  have HB := Lib.hid (Below.refl w.heap.size w)
  have V1 : Hid (∀ w, Calls Tryd.prog 8 #[.string ⟨#[48, 120, 70, 102]⟩] w (RetB (.tuple #[.int .u64 255, .int .i64 0]) w)) := Lib.hid fun w => by have := Value_any ⟨#[48, 120, 70, 102]⟩ w; rwa [val_a] at this
  have V2 : Hid (∀ w, Calls Tryd.prog 8 #[.string ⟨#[48, 49, 56]⟩] w (RetB (.tuple #[.int .u64 18, .int .i64 0]) w)) := Lib.hid fun w => by have := Value_any ⟨#[48, 49, 56]⟩ w; rwa [val_b] at this
  have V3 : Hid (∀ w, Calls Tryd.prog 8 #[.string ⟨#[49, 56, 52, 52, 54, 55, 52, 52, 48, 55, 51, 55, 48, 57, 53, 53, 49, 54, 49, 54]⟩] w (RetB (.tuple #[.int .u64 0, .int .i64 4]) w)) := Lib.hid fun w => by
    have := Value_any ⟨#[49, 56, 52, 52, 54, 55, 52, 52, 48, 55, 51, 55, 48, 57, 53, 53, 49, 54, 49, 54]⟩ w; rwa [val_c] at this
  have V4 : Hid (∀ w, Calls Tryd.prog 8 #[.string ⟨#[48, 120]⟩] w (RetB (.tuple #[.int .u64 0, .int .i64 3]) w)) := Lib.hid fun w => by have := Value_any ⟨#[48, 120]⟩ w; rwa [val_d] at this
  have G1 : Hid (∀ w, Calls Tryd.prog 10 #[.bool true, .int .u64 9223372036854775808] w (Ret (.tuple #[.int .i64 (-9223372036854775808), .int .i64 0]) w)) := Lib.hid fun w => by
    have := Signed_any true 9223372036854775808 w (by omega) (by omega)
    rwa [show signS true 9223372036854775808 = (-9223372036854775808, 0) from by decide +kernel] at this
  have O1 : Hid (∀ w, Calls Tryd.prog 12 #[.int .i64 (-5)] w (Ret (.tuple #[.bool true, .int .u64 5]) w)) := Lib.hid fun w => by
    have := Of_any (-5) w (by omega) (by omega)
    rwa [show farS (-5) = 5 from by decide, show decide ((-5 : Int) < 0) = true from by decide] at this
  have M1 : Hid (∀ w, Calls Tryd.prog 14 #[.int .u64 7, .int .i64 (-7)] w (Ret (.tuple #[.int .u64 0, .int .i64 0]) w)) := Lib.hid fun w => by
    have := Sum_any 7 (-7) w (by omega) (by omega) (by omega) (by omega)
    rwa [show sumS 7 (-7) = (0, 0) from by decide +kernel] at this
  have M2 : Hid (∀ w, Calls Tryd.prog 14 #[.int .u64 7, .int .i64 (-8)] w (Ret (.tuple #[.int .u64 0, .int .i64 4]) w)) := Lib.hid fun w => by
    have := Sum_any 7 (-8) w (by omega) (by omega) (by omega) (by omega)
    rwa [show sumS 7 (-8) = (0, 4) from by decide +kernel] at this
  have HX : Hid (∀ w, Tab w → Calls Tryd.prog 19 #[.int .u64 255] w (RetB (.string ⟨#[48, 120, 102, 102]⟩) w)) := Lib.hid fun w h => by have := Hex_any 255 w (by omega) h; rwa [hexB_c] at this
  have HY : Hid (∀ w, Tab w → Calls Tryd.prog 17 #[.int .u64 0] w (RetB (.string ⟨#[48]⟩) w)) := Lib.hid fun w h => by have := Text_any 0 w (by omega) h; rwa [textB_c] at this
  go_enter Tryd.func16, Tryd.ntmps16
  go_wp2_with (first | (go_at_call 8; ((with_reducible refine (V1.out _).mono ?_); rintro e w' ⟨rfl, hb⟩; replace HB := Lib.hid (after HB.out hb); clear hb)) | (go_at_call 8; ((with_reducible refine (V2.out _).mono ?_); rintro e w' ⟨rfl, hb⟩; replace HB := Lib.hid (after HB.out hb); clear hb)) | (go_at_call 8; ((with_reducible refine (V3.out _).mono ?_); rintro e w' ⟨rfl, hb⟩; replace HB := Lib.hid (after HB.out hb); clear hb)) | (go_at_call 8; ((with_reducible refine (V4.out _).mono ?_); rintro e w' ⟨rfl, hb⟩; replace HB := Lib.hid (after HB.out hb); clear hb)) | (go_at_call 10; ((with_reducible refine (G1.out _).mono ?_); rintro e w' ⟨rfl, rfl⟩)) | (go_at_call 12; ((with_reducible refine (O1.out _).mono ?_); rintro e w' ⟨rfl, rfl⟩)) | (go_at_call 14; ((with_reducible refine (M1.out _).mono ?_); rintro e w' ⟨rfl, rfl⟩)) | (go_at_call 14; ((with_reducible refine (M2.out _).mono ?_); rintro e w' ⟨rfl, rfl⟩)) | (go_at_call 19; ((with_reducible refine (HX.out _ (HT.out.below HB.out)).mono ?_); rintro e w' ⟨rfl, hb⟩; replace HB := Lib.hid (after HB.out hb); clear hb)) | (go_at_call 17; ((with_reducible refine (HY.out _ (HT.out.below HB.out)).mono ?_); rintro e w' ⟨rfl, hb⟩; replace HB := Lib.hid (after HB.out hb); clear hb)))
  go_ret
  exact ⟨rfl, HB.out⟩
end Go.Proofs.YtklebljckmkdlaaDoor
