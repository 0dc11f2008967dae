/- The document's rows of wire (sent). -/
import Derived.Test.YtbicmnbmkaffeaaV6
namespace Go.Proofs.Ytbicmnbmkaffeaa
set_option linter.unusedVariables false
set_option linter.unusedSimpArgs false
open Go.RowKit

theorem g_a : getL [128] = (0, 0, 9) := by decide +kernel
theorem g_b : getL [128, 0] = (0, 0, 3) := by decide +kernel
theorem g_c : getL [172, 2, 122] = (300, 2, 0) := by decide +kernel
theorem g_d : getL [2, 97, 98, 99] = (2, 1, 0) := by decide +kernel
theorem t_a : getT ⟨#[2, 97, 98, 99]⟩ 9 = (⟨#[97, 98]⟩, 3, 0) := (getT_ok (x := 2) (m := 1) (by omega) g_d (by omega) (by decide)).trans (by decide +kernel)
theorem t_b : getT ⟨#[2, 97, 98, 99]⟩ 1 = (⟨#[]⟩, 0, 2) := getT_limit (x := 2) (m := 1) (by omega) g_d (by omega)
theorem p_a : putB 300 = ⟨#[172, 2]⟩ := by decide +kernel
theorem p_b : putB (zig (-1)) = ⟨#[1]⟩ := by decide +kernel
theorem p_c : textB ⟨#[97, 98]⟩ = ⟨#[2, 97, 98]⟩ := by decide +kernel

set_option maxRecDepth 100000 in
set_option maxHeartbeats 1000000 in
theorem sent_any (w : World) : Calls Try.prog 26 #[] w (RetB (.bool true) w) := by
  have HB := Lib.hid (Below.refl w.heap.size w)
  have G1 : Hid (∀ w, Calls Try.prog 20 #[.string ⟨#[128]⟩] w (Ret (.tuple #[.int .u64 0, .int .i64 0, .int .i64 9]) w)) := Lib.hid fun w => Get_more w (by decide) g_a
  have G2 : Hid (∀ w, Calls Try.prog 20 #[.string ⟨#[128, 0]⟩] w (Ret (.tuple #[.int .u64 0, .int .i64 0, .int .i64 3]) w)) := Lib.hid fun w => Get_form w (by decide) g_b
  have G3 : Hid (∀ w, Calls Try.prog 20 #[.string ⟨#[172, 2, 122]⟩] w (Ret (.tuple #[.int .u64 300, .int .i64 2, .int .i64 0]) w)) := Lib.hid fun w => Get_ok w (by decide) g_c
  have T1 : Hid (∀ w, Calls Try.prog 24 #[.string ⟨#[2, 97, 98, 99]⟩, .int .i64 9] w (Ret (.tuple #[.string ⟨#[97, 98]⟩, .int .i64 3, .int .i64 0]) w)) := Lib.hid fun w => by
    have := GetText_any ⟨#[2, 97, 98, 99]⟩ 9 (by omega) (by omega) w (by decide)
    rw [t_a] at this; exact this
  have T2 : Hid (∀ w, Calls Try.prog 24 #[.string ⟨#[2, 97, 98, 99]⟩, .int .i64 1] w (Ret (.tuple #[.string ⟨#[]⟩, .int .i64 0, .int .i64 2]) w)) := Lib.hid fun w => by
    have := GetText_any ⟨#[2, 97, 98, 99]⟩ 1 (by omega) (by omega) w (by decide)
    rw [t_b] at this; exact this
  have P1 : Hid (∀ w, Calls Try.prog 27 #[.int .u64 300] w (RetB (.string ⟨#[172, 2]⟩) w)) := Lib.hid fun w => by have := Put_at 300 300 rfl (by omega) w; rwa [p_a] at this
  have P2 : Hid (∀ w, Calls Try.prog 29 #[.int .i64 (-1)] w (RetB (.string ⟨#[1]⟩) w)) := Lib.hid fun w => by have := PutInt_any (-1) (by omega) (by omega) w; rwa [p_b] at this
  have P3 : Hid (∀ w, Calls Try.prog 31 #[.string ⟨#[97, 98]⟩] w (RetB (.string ⟨#[2, 97, 98]⟩) w)) := Lib.hid fun w => by have := PutText_any ⟨#[97, 98]⟩ (by decide) w; rwa [p_c] at this
  go_enter Try.func26, Try.ntmps26
  go_wp2_with (first | (go_at_call 20; ((with_reducible refine (G1.out _).mono ?_); rintro e w' ⟨rfl, rfl⟩)) | (go_at_call 20; ((with_reducible refine (G2.out _).mono ?_); rintro e w' ⟨rfl, rfl⟩)) | (go_at_call 20; ((with_reducible refine (G3.out _).mono ?_); rintro e w' ⟨rfl, rfl⟩)) | (go_at_call 24; ((with_reducible refine (T1.out _).mono ?_); rintro e w' ⟨rfl, rfl⟩)) | (go_at_call 24; ((with_reducible refine (T2.out _).mono ?_); rintro e w' ⟨rfl, rfl⟩)) | (go_at_call 27; ((with_reducible refine (P1.out _).mono ?_); rintro e w' ⟨rfl, hb⟩; replace HB := Lib.hid (after HB.out hb); clear hb)) | (go_at_call 29; ((with_reducible refine (P2.out _).mono ?_); rintro e w' ⟨rfl, hb⟩; replace HB := Lib.hid (after HB.out hb); clear hb)) | (go_at_call 31; ((with_reducible refine (P3.out _).mono ?_); rintro e w' ⟨rfl, hb⟩; replace HB := Lib.hid (after HB.out hb); clear hb)))
  go_ret
  exact ⟨rfl, HB.out⟩
end Go.Proofs.Ytbicmnbmkaffeaa
