/- What Good answers, the program's and the reference's, for every options. -/
import Derived.Test.YtpjidjanhonikaaG1
import Derived.LoopN
namespace Go.Proofs.Ytpjidjanhonikaa
set_option linter.unusedVariables false
set_option linter.unusedSimpArgs false
open Go.RowKit

set_option maxHeartbeats 800000 in
theorem refGood_any (t d s r : Int) (w : World) (t0 : 0 ≤ t) (t1 : t < 18446744073709551616) (d0 : 0 ≤ d) (d1 : d < 18446744073709551616) (s0 : 0 ≤ s) (s1 : s < 18446744073709551616) :
    Calls Try.prog 16 #[.agg #[.int .u64 t, .int .u64 d, .int .u64 s, .int .i64 r]] w (RetB (.bool (goodB t d s r)) w) := by
  have tm : r.tmod 4 = 0 ↔ r % 4 = 0 := by rw [← Int.dvd_iff_tmod_eq_zero, Int.dvd_iff_emod_eq_zero]
  go_enter Try.func16, Try.ntmps16
  go_wp2_with (first | (go_at_call 24; refine (even_any _ _ (by omega) (by omega)).mono ?_; rintro e w' ⟨rfl, rfl⟩) | (go_at_call 25; refine (apart_any _ _ _ (by omega) (by omega) (by omega) (by omega)).mono ?_; rintro e w' ⟨rfl, rfl⟩))
  all_goals
    go_ret
    refine retB_bool ?_ ((Below.refl _ _).alloc (Nat.le_refl _) _)
    try simp only [Bool.not_eq_true] at *
    unfold goodB
    simp only [*, Bool.false_and, Bool.and_false, Bool.true_and, Bool.and_true, Bool.false_eq, Bool.true_eq]
    try (simp [*]; done)
    try (first | (simp only [decide_eq_decide]; omega) | (simp only [decide_eq_false_iff_not]; omega) | (simp only [decide_eq_true_eq]; omega))

theorem max_min (a b : Int) : ∃ M m : Int, (if a < b then b else a) = M ∧ (if b < a then b else a) = m ∧ (apB b a = true ↔ 16777216 ≤ M - m) := by
  refine ⟨_, _, rfl, rfl, ?_⟩
  simp only [apB, decide_eq_true_eq]
  split <;> split <;> omega
set_option maxHeartbeats 1600000 in
theorem good_any (t d s r : Int) (w : World) (t0 : 0 ≤ t) (t1 : t < 18446744073709551616) (d0 : 0 ≤ d) (d1 : d < 18446744073709551616) (s0 : 0 ≤ s) (s1 : s < 18446744073709551616) :
    Calls Try.prog 15 #[.agg #[.int .u64 t, .int .u64 d, .int .u64 s, .int .i64 r]] w (RetB (.bool (goodB t d s r)) w) := by
  have i0 : ∀ w, (Instr.index 46 (.agg #[.int .u64 t, .int .u64 d, .int .u64 s]) (.int .i64 0)).run Try.prog w = .ok (.int .u64 t) w := fun _ => by kernel_rfl
  have i1 : ∀ w, (Instr.index 46 (.agg #[.int .u64 t, .int .u64 d, .int .u64 s]) (.int .i64 1)).run Try.prog w = .ok (.int .u64 d) w := fun _ => by kernel_rfl
  have i2 : ∀ w, (Instr.index 46 (.agg #[.int .u64 t, .int .u64 d, .int .u64 s]) (.int .i64 2)).run Try.prog w = .ok (.int .u64 s) w := fun _ => by kernel_rfl
  obtain ⟨M1, m1, e1, f1, g1⟩ := max_min d t
  obtain ⟨M2, m2, e2, f2, g2⟩ := max_min s t
  obtain ⟨M3, m3, e3, f3, g3⟩ := max_min s d
  have hg : goodB t d s r = decide ((r % 4 = 0 ∧ 8192 ≤ r ∧ r ≤ 134217724) ∧ (t % 4096 = 0 ∧ t ≤ 2305843009213693952) ∧ (d % 4096 = 0 ∧ d ≤ 2305843009213693952) ∧ (s % 4096 = 0 ∧ s ≤ 2305843009213693952) ∧ 16777216 ≤ M1 - m1 ∧ 16777216 ≤ M2 - m2 ∧ 16777216 ≤ M3 - m3) := by
    rw [Bool.eq_iff_iff]
    simp only [goodB, evB, Bool.and_eq_true, decide_eq_true_eq, g1, g2, g3]
    omega
  have HG := Lib.hid hg
  clear hg g1 g2 g3
  have tm : r.tmod 4 = 0 ↔ r % 4 = 0 := by rw [← Int.dvd_iff_tmod_eq_zero, Int.dvd_iff_emod_eq_zero]
  go_enter Try.func15, Try.ntmps15
  go_wp2
  iterate 12
    all_goals first
      | (go_ret; refine retB_bool ?_ (by repeat (first | exact Below.refl _ _ | refine Below.alloc ?_ (by simp) _)); rw [HG.out]; first | rfl | (symm; rw [decide_eq_true_eq]; omega) | (symm; rw [decide_eq_false_iff_not]; omega))
      | (refine wp_loop_rounds 4 ?_; rw [rounds_succ]; go_wp2)
      | (rw [rounds_succ]; go_wp2)
end Go.Proofs.Ytpjidjanhonikaa
