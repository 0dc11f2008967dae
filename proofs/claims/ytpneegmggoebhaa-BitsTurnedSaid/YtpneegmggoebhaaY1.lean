/- BitsSigned and BitsTurned return true, for every input. -/
import Derived.Test.YtpneegmggoebhaaT1
namespace Go.Proofs.Ytpneegmggoebhaa
open Go.RowKit
set_option linter.unusedVariables false

set_option maxHeartbeats 400000 in
theorem BitsSigned_walk (v : Int) (hv : 0 ≤ v ∧ v < 4294967296) (s : Int) (hs : -9223372036854775808 ≤ s ∧ s ≤ 9223372036854775807) (n : Int) (hn : -9223372036854775808 ≤ n ∧ n ≤ 9223372036854775807) (w : World) :
    Calls Try.prog 4 #[.int .u32 v, .int .i64 s, .int .i64 n] w (RetB (.bool true) w) := by
  go_enter Try.func4, Try.ntmps4
  go_wp2_with (first | (go_at_call 16; refine (signed_any _ _ _ hv.1 hv.2).mono ?_; rintro e w' ⟨rfl, rfl⟩) | (go_at_call 17; refine (refSigned_any _ _ _ hv.1 hv.2).mono ?_; rintro e w' ⟨rfl, rfl⟩) | (go_at_call 18; refine (pack_any _ _ _ hs.1 hs.2).mono ?_; rintro e w' ⟨rfl, rfl⟩) | (go_at_call 19; refine (refPack_any _ _ _ hs.1 hs.2).mono ?_; rintro e w' ⟨rfl, rfl⟩) | (go_at_call 14; refine (told_any _).mono ?_; rintro e w' ⟨rfl, hb⟩))
  go_ret
  exact retB_bool rfl hb

set_option maxHeartbeats 400000 in
theorem BitsTurned_walk (v : Int) (hv : 0 ≤ v ∧ v < 18446744073709551616) (b : Int) (hb : -9223372036854775808 ≤ b ∧ b ≤ 9223372036854775807) (s : Int) (hs : -9223372036854775808 ≤ s ∧ s ≤ 9223372036854775807) (n : Int) (hn : -9223372036854775808 ≤ n ∧ n ≤ 9223372036854775807) (w : World) :
    Calls Try.prog 5 #[.int .u64 v, .int .i64 b, .int .i64 s, .int .i64 n] w (RetB (.bool true) w) := by
  go_enter Try.func5, Try.ntmps5
  go_wp2_with (first | (go_at_call 20; refine (rotate_any _ _ _ _ hv.1 hv.2).mono ?_; rintro e w' ⟨rfl, rfl⟩) | (go_at_call 21; refine (refRotate_any _ _ _ _ hv.1 hv.2).mono ?_; rintro e w' ⟨rfl, rfl⟩) | (go_at_call 22; refine (low_any _ _ _ hv.1 hv.2).mono ?_; rintro e w' ⟨rfl, rfl⟩) | (go_at_call 23; refine (refLow_any _ _ _ hv.1 hv.2).mono ?_; rintro e w' ⟨rfl, rfl⟩) | (go_at_call 14; refine (told_any _).mono ?_; rintro e w' ⟨rfl, hb⟩))
  go_ret
  exact retB_bool rfl hb
end Go.Proofs.Ytpneegmggoebhaa
