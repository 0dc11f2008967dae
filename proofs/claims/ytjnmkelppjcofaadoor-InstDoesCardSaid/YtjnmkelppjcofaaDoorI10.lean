/- The reference's between, imm, amount. -/
import Derived.Test.YtjnmkelppjcofaaDoorI9
namespace Go.Proofs.YtjnmkelppjcofaaDoor
set_option linter.unusedVariables false
set_option linter.unusedSimpArgs false
open Go.RowKit

set_option maxHeartbeats 400000 in
theorem between_any (n l m s : Int) (w : World) (hs : 0 < s) (hn : -9223372036854775808 ≤ n ∧ n ≤ 9223372036854775807) : Calls Tryd.prog 46 #[.int .i64 n, .int .i64 l, .int .i64 m, .int .i64 s] w (Ret (.bool (withinI n l m s)) w) := by
  have hs0 : (s == 0) = false := by rw [beq_eq_false_iff_ne]; omega
  unfold withinI
  by_cases h1 : l ≤ n
  · rw [decide_eq_true h1]
    by_cases h2 : n ≤ m
    · rw [decide_eq_true h2]
      go_enter Tryd.func46, Tryd.ntmps46
      go_wp2
      go_ret
      exact ret_bool (by simp)
    · rw [decide_eq_false h2]
      go_enter Tryd.func46, Tryd.ntmps46
      go_wp2
      go_ret
      exact ret_bool rfl
  · rw [decide_eq_false h1]
    go_enter Tryd.func46, Tryd.ntmps46
    go_wp2
    go_ret
    exact ret_bool rfl

def immR (s v : Int) : Bool :=
  if s = 1 ∨ s = 14 then withinI v 0 65535 1
  else if s = 2 ∨ s = 8 then withinI v 0 4095 1
  else if s = 7 then withinI v 0 32760 8
  else if s = 9 ∨ s = 12 then withinI v (-1048576) 1048572 4
  else if s = 10 then withinI v (-1048576) 1048575 1
  else if s = 11 then withinI v (-134217728) 134217724 4
  else v == 0
def amountR (s v : Int) : Bool :=
  if s = 1 then withinI v 0 48 16
  else if s = 2 then withinI v 0 12 12
  else if s = 4 ∨ s = 5 then withinI v 0 63 1
  else v == 0
set_option maxHeartbeats 2000000 in
theorem imm_any (s v : Int) (w : World) (hv : -9223372036854775808 ≤ v ∧ v ≤ 9223372036854775807) : Calls Tryd.prog 34 #[.int .i64 s, .int .i64 v] w (Ret (.bool (immR s v)) w) := by
  have HB : Hid (∀ l m b w, 0 < b → Calls Tryd.prog 46 #[.int .i64 v, .int .i64 l, .int .i64 m, .int .i64 b] w (Ret (.bool (withinI v l m b)) w)) := Lib.hid fun l m b w h => between_any v l m b w h hv
  clear hv
  by_cases c : s = 1 ∨ s = 14 ∨ s = 2 ∨ s = 8 ∨ s = 7 ∨ s = 9 ∨ s = 12 ∨ s = 10 ∨ s = 11
  · rcases c with rfl | rfl | rfl | rfl | rfl | rfl | rfl | rfl | rfl
    all_goals
      go_enter Tryd.func34, Tryd.ntmps34
      go_wp2_with (go_at_call 46; ((with_reducible refine (HB.out _ _ _ _ (by decide)).mono ?_); rintro e w' ⟨rfl, rfl⟩))
      go_ret
      exact ret_bool rfl
  · have q1 : (s == 1) = false := by rw [beq_eq_false_iff_ne]; omega
    have q14 : (s == 14) = false := by rw [beq_eq_false_iff_ne]; omega
    have q2 : (s == 2) = false := by rw [beq_eq_false_iff_ne]; omega
    have q8 : (s == 8) = false := by rw [beq_eq_false_iff_ne]; omega
    have q7 : (s == 7) = false := by rw [beq_eq_false_iff_ne]; omega
    have q9 : (s == 9) = false := by rw [beq_eq_false_iff_ne]; omega
    have q12 : (s == 12) = false := by rw [beq_eq_false_iff_ne]; omega
    have q10 : (s == 10) = false := by rw [beq_eq_false_iff_ne]; omega
    have q11 : (s == 11) = false := by rw [beq_eq_false_iff_ne]; omega
    have hf : immR s v = (v == 0) := by
      unfold immR
      rw [if_neg (by omega), if_neg (by omega), if_neg (by omega), if_neg (by omega), if_neg (by omega), if_neg (by omega)]
    rw [hf]
    clear c hf
    go_enter Tryd.func34, Tryd.ntmps34
    go_wp2
    go_ret
    exact ret_bool rfl
set_option maxHeartbeats 2000000 in
theorem amount_any (s v : Int) (w : World) (hv : -9223372036854775808 ≤ v ∧ v ≤ 9223372036854775807) : Calls Tryd.prog 35 #[.int .i64 s, .int .i64 v] w (Ret (.bool (amountR s v)) w) := by
  have HB : Hid (∀ l m b w, 0 < b → Calls Tryd.prog 46 #[.int .i64 v, .int .i64 l, .int .i64 m, .int .i64 b] w (Ret (.bool (withinI v l m b)) w)) := Lib.hid fun l m b w h => between_any v l m b w h hv
  clear hv
  by_cases c : s = 1 ∨ s = 2 ∨ s = 4 ∨ s = 5
  · rcases c with rfl | rfl | rfl | rfl
    all_goals
      go_enter Tryd.func35, Tryd.ntmps35
      go_wp2_with (go_at_call 46; ((with_reducible refine (HB.out _ _ _ _ (by decide)).mono ?_); rintro e w' ⟨rfl, rfl⟩))
      go_ret
      exact ret_bool rfl
  · have q1 : (s == 1) = false := by rw [beq_eq_false_iff_ne]; omega
    have q2 : (s == 2) = false := by rw [beq_eq_false_iff_ne]; omega
    have q4 : (s == 4) = false := by rw [beq_eq_false_iff_ne]; omega
    have q5 : (s == 5) = false := by rw [beq_eq_false_iff_ne]; omega
    have hf : amountR s v = (v == 0) := by
      unfold amountR
      rw [if_neg (by omega), if_neg (by omega), if_neg (by omega)]
    rw [hf]
    clear c hf
    go_enter Tryd.func35, Tryd.ntmps35
    go_wp2
    go_ret
    exact ret_bool rfl
end Go.Proofs.YtjnmkelppjcofaaDoor
