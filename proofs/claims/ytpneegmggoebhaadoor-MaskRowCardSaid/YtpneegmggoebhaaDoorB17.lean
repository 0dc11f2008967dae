/- The document's rows for masks. -/
import Derived.Test.YtpneegmggoebhaaDoorB16
namespace Go.Proofs.YtpneegmggoebhaaDoor
set_option linter.unusedVariables false
set_option linter.unusedSimpArgs false
open Go.RowKit

theorem dec_a : decS 1 0 7 = (255, 0) := by decide +kernel
theorem dec_b : decS 0 0 60 = (6148914691236517205, 0) := by decide +kernel
theorem dec_c : decS 0 0 63 = (0, 3) := by decide +kernel
theorem enc_a : encS 6 = (1, 63, 1, 0) := by decide +kernel
theorem enc_b : encS 0 = (0, 0, 0, 3) := by decide +kernel
theorem is_a : isS 6 = true := by decide +kernel
theorem size_a : sizeL 6148914691236517205 = 2 := by decide +kernel
theorem ones_a : pcN 6148914691236517205 64 = 32 := by decide +kernel
theorem cast6 : ((6 : Nat) : Int) = 6 := rfl
theorem cast0 : ((0 : Nat) : Int) = 0 := rfl
theorem castb : ((6148914691236517205 : Nat) : Int) = 6148914691236517205 := rfl

set_option maxHeartbeats 1000000 in
theorem masked_any (w : World) (hT : Tab w) : Calls Tryd.prog 12 #[] w (RetB (.bool true) w) := by
  have HT := Lib.hid hT
  clear hT
  have HB := Lib.hid (Below.refl w.heap.size w)
  have HD1 : Hid (∀ w, Calls Tryd.prog 8 #[.int .i64 1, .int .i64 0, .int .i64 7] w (RetB (.tuple #[.int .u64 255, .int .i64 0]) w)) := Lib.hid fun w => by have := Decode_any 1 0 7 w; rwa [dec_a] at this
  have HD2 : Hid (∀ w, Calls Tryd.prog 8 #[.int .i64 0, .int .i64 0, .int .i64 60] w (RetB (.tuple #[.int .u64 6148914691236517205, .int .i64 0]) w)) := Lib.hid fun w => by have := Decode_any 0 0 60 w; rwa [dec_b] at this
  have HD3 : Hid (∀ w, Calls Tryd.prog 8 #[.int .i64 0, .int .i64 0, .int .i64 63] w (RetB (.tuple #[.int .u64 0, .int .i64 3]) w)) := Lib.hid fun w => by have := Decode_any 0 0 63 w; rwa [dec_c] at this
  have HE1 : Hid (∀ w, Tab w → Calls Tryd.prog 10 #[.int .u64 6] w (RetB (.tuple #[.int .i64 1, .int .i64 63, .int .i64 1, .int .i64 0]) w)) := Lib.hid fun w h => by have := Encode_any 6 w (by decide) h; rwa [enc_a, cast6] at this
  have HE2 : Hid (∀ w, Tab w → Calls Tryd.prog 10 #[.int .u64 0] w (RetB (.tuple #[.int .i64 0, .int .i64 0, .int .i64 0, .int .i64 3]) w)) := Lib.hid fun w h => by have := Encode_any 0 w (by decide) h; rwa [enc_b, cast0] at this
  have HI : Hid (∀ w, Tab w → Calls Tryd.prog 13 #[.int .u64 6] w (RetB (.bool true) w)) := Lib.hid fun w h => by have := Is_any 6 w (by decide) h; rwa [is_a, cast6] at this
  have HS : Hid (∀ w, Calls Tryd.prog 15 #[.int .u64 6148914691236517205] w (RetB (.int .i64 2) w)) := Lib.hid fun w => by have := Size_any 6148914691236517205 w (by decide); rwa [size_a, castb] at this
  have HO : Hid (∀ w, Calls Tryd.prog 17 #[.int .u64 6148914691236517205] w (Ret (.int .i64 32) w)) := Lib.hid fun w => by have := Ones_any 6148914691236517205 w (by decide); rwa [ones_a, castb] at this
  go_enter Tryd.func12, Tryd.ntmps12
  go_wp2_with (first | (go_at_call 8; ((with_reducible refine (HD1.out _).mono ?_); rintro e w' ⟨rfl, hb⟩; replace HB := Lib.hid (after HB.out hb); clear hb)) | (go_at_call 8; ((with_reducible refine (HD2.out _).mono ?_); rintro e w' ⟨rfl, hb⟩; replace HB := Lib.hid (after HB.out hb); clear hb)) | (go_at_call 8; ((with_reducible refine (HD3.out _).mono ?_); rintro e w' ⟨rfl, hb⟩; replace HB := Lib.hid (after HB.out hb); clear hb)) | (go_at_call 10; ((with_reducible refine (HE1.out _ (HT.out.below HB.out HT.out.2)).mono ?_); rintro e w' ⟨rfl, hb⟩; replace HB := Lib.hid (after HB.out hb); clear hb)) | (go_at_call 10; ((with_reducible refine (HE2.out _ (HT.out.below HB.out HT.out.2)).mono ?_); rintro e w' ⟨rfl, hb⟩; replace HB := Lib.hid (after HB.out hb); clear hb)) | (go_at_call 13; ((with_reducible refine (HI.out _ (HT.out.below HB.out HT.out.2)).mono ?_); rintro e w' ⟨rfl, hb⟩; replace HB := Lib.hid (after HB.out hb); clear hb)) | (go_at_call 15; ((with_reducible refine (HS.out _).mono ?_); rintro e w' ⟨rfl, hb⟩; replace HB := Lib.hid (after HB.out hb); clear hb)) | (go_at_call 17; ((with_reducible refine (HO.out _).mono ?_); rintro e w' ⟨rfl, rfl⟩)))
  go_ret
  exact ⟨rfl, HB.out⟩
end Go.Proofs.YtpneegmggoebhaaDoor
