/- The examples of the chapter hold: told answers true. -/
import Derived.Test.YtpneegmggoebhaaW1
import Derived.Test.YtpneegmggoebhaaB2
namespace Go.Proofs.Ytpneegmggoebhaa
open Go.RowKit
set_option linter.unusedVariables false

theorem fs_two (w : World) (f g : F3) (hf : 0 ≤ f.2.2 ∧ f.2.2 < 4294967296 ∧ -9223372036854775808 ≤ f.1 ∧ f.1 ≤ 9223372036854775807 ∧ -9223372036854775808 ≤ f.2.1 ∧ f.2.1 ≤ 9223372036854775807)
    (hg : 0 ≤ g.2.2 ∧ g.2.2 < 4294967296 ∧ -9223372036854775808 ≤ g.1 ∧ g.1 ≤ 9223372036854775807 ∧ -9223372036854775808 ≤ g.2.1 ∧ g.2.1 ≤ 9223372036854775807) :
    FS (w.alloc (.cells #[.int .i64 f.1, .int .i64 f.2.1, .int .u32 f.2.2, .int .i64 g.1, .int .i64 g.2.1, .int .u32 g.2.2] 43)) (w.alloc (.cells #[.int .i64 f.1, .int .i64 f.2.1, .int .u32 f.2.2, .int .i64 g.1, .int .i64 g.2.1, .int .u32 g.2.2] 43)).heap.size
      (some ⟨w.heap.size, 0, none⟩) 2 [f, g] := by
  refine ⟨rfl, ?_, fun _ => ⟨w.heap.size, 0, rfl, by simp, fun k hk => ?_⟩⟩
  · intro x hx
    simp only [List.mem_cons, List.mem_nil_iff, or_false] at hx
    rcases hx with rfl | rfl
    · exact hf
    · exact hg
  · have : k = 0 ∨ k = 1 := by simp at hk; omega
    rcases this with rfl | rfl
    · refine ⟨?_, ?_, ?_⟩ <;> simp [go_sem]
    · refine ⟨?_, ?_, ?_⟩ <;> simp [go_sem]

theorem word_t1 (w : World) : Calls Try.prog 12 #[.slice (some ⟨w.heap.size, 0, none⟩) 2 2] (w.alloc (.cells #[.int .i64 0, .int .i64 5, .int .u32 5, .int .i64 16, .int .i64 5, .int .u32 3] 43))
    (RetB (.tuple #[.int .u32 196613, .int .i64 0]) (w.alloc (.cells #[.int .i64 0, .int .i64 5, .int .u32 5, .int .i64 16, .int .i64 5, .int .u32 3] 43))) :=
  word_any _ 2 2 [(0, 5, 5), (16, 5, 3)] _ (by decide) (fs_two w (0, 5, 5) (16, 5, 3) (by decide) (by decide))

theorem word_t2 (w : World) : Calls Try.prog 12 #[.slice (some ⟨w.heap.size, 0, none⟩) 2 2] (w.alloc (.cells #[.int .i64 0, .int .i64 5, .int .u32 0, .int .i64 4, .int .i64 1, .int .u32 0] 43))
    (RetB (.tuple #[.int .u32 0, .int .i64 1]) (w.alloc (.cells #[.int .i64 0, .int .i64 5, .int .u32 0, .int .i64 4, .int .i64 1, .int .u32 0] 43))) :=
  word_any _ 2 2 [(0, 5, 0), (4, 1, 0)] _ (by decide) (fs_two w (0, 5, 0) (4, 1, 0) (by decide) (by decide))
theorem signed_t (w : World) : Calls Try.prog 16 #[.int .u32 7, .int .i64 3] w (Ret (.tuple #[.int .i64 (-1), .int .i64 0]) w) := signed_any 7 3 w (by decide) (by decide)
theorem pack_t1 (w : World) : Calls Try.prog 18 #[.int .i64 (-4), .int .i64 3] w (Ret (.tuple #[.int .u32 4, .int .i64 0]) w) := pack_any (-4) 3 w (by decide) (by decide)
theorem pack_t2 (w : World) : Calls Try.prog 18 #[.int .i64 4, .int .i64 3] w (Ret (.tuple #[.int .u32 0, .int .i64 4]) w) := pack_any 4 3 w (by decide) (by decide)
theorem rotate_t (w : World) : Calls Try.prog 20 #[.int .u64 1, .int .i64 1, .int .i64 8] w (Ret (.tuple #[.int .u64 128, .int .i64 0]) w) := rotate_any 1 1 8 w (by decide) (by decide)
theorem low_t (w : World) : Calls Try.prog 22 #[.int .u64 255, .int .i64 4] w (Ret (.int .u64 15) w) := low_any 255 4 w (by decide) (by decide)

set_option maxHeartbeats 400000 in
theorem told_any (w : World) :
    Calls Try.prog 14 #[] w (RetB (.bool true) w) := by
  go_enter Try.func14, Try.ntmps14
  go_wp2_with fail
  refine (word_t1 _).mono ?_
  rintro e w1 ⟨rfl, hb1⟩
  go_wp2_with fail
  refine (signed_t _).mono ?_
  rintro e w' ⟨rfl, rfl⟩
  go_wp2_with fail
  refine (pack_t1 _).mono ?_
  rintro e w' ⟨rfl, rfl⟩
  go_wp2_with fail
  refine (rotate_t _).mono ?_
  rintro e w' ⟨rfl, rfl⟩
  go_wp2_with fail
  refine (word_t2 _).mono ?_
  rintro e w2 ⟨rfl, hb2⟩
  go_wp2_with fail
  refine (pack_t2 _).mono ?_
  rintro e w' ⟨rfl, rfl⟩
  go_wp2_with fail
  refine (low_t _).mono ?_
  rintro e w' ⟨rfl, rfl⟩
  go_wp2_with fail
  go_ret
  refine retB_bool rfl ?_
  have h1 : Below w.heap.size w w1 := ((Below.refl _ w).alloc (Nat.le_refl _) _).trans (hb1.mono (by simp))
  exact (h1.alloc h1.size _).trans (hb2.mono (by have := h1.size; simp; omega))
end Go.Proofs.Ytpneegmggoebhaa
