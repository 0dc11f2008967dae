/- inst: hasN, hasM, stackN, the closure of Reads. -/
import Derived.Test.YtjnmkelppjcofaaDoorI6
namespace Go.Proofs.YtjnmkelppjcofaaDoor
set_option linter.unusedVariables false
set_option linter.unusedSimpArgs false
open Go.RowKit

set_option maxHeartbeats 400000 in
theorem hasN_any (s : Int) (w : World) : Calls Tryd.prog 37 #[.int .i64 s] w (Ret (.bool (hasNb s)) w) := by
  unfold hasNb
  by_cases h1 : 2 ≤ s
  · rw [decide_eq_true h1]
    by_cases h2 : s ≤ 8
    · rw [decide_eq_true h2]
      go_enter Tryd.func37, Tryd.ntmps37
      go_wp2
      go_ret
      exact ret_bool rfl
    · rw [decide_eq_false h2]
      cases h3 : (s == 13)
      all_goals
        go_enter Tryd.func37, Tryd.ntmps37
        go_wp2
        go_ret
        exact ret_bool rfl
  · rw [decide_eq_false h1]
    cases h3 : (s == 13)
    all_goals
      go_enter Tryd.func37, Tryd.ntmps37
      go_wp2
      go_ret
      exact ret_bool rfl
set_option maxHeartbeats 400000 in
theorem hasM_any (s : Int) (w : World) : Calls Tryd.prog 39 #[.int .i64 s] w (Ret (.bool (hasMb s)) w) := by
  unfold hasMb
  by_cases h1 : 4 ≤ s
  · rw [decide_eq_true h1]
    by_cases h2 : s ≤ 6
    · rw [decide_eq_true h2]
      go_enter Tryd.func39, Tryd.ntmps39
      go_wp2
      go_ret
      exact ret_bool rfl
    · rw [decide_eq_false h2]
      go_enter Tryd.func39, Tryd.ntmps39
      go_wp2
      go_ret
      exact ret_bool rfl
  · rw [decide_eq_false h1]
    go_enter Tryd.func39, Tryd.ntmps39
    go_wp2
    go_ret
    exact ret_bool rfl
def stackNb (s : Int) : Bool := s == 2 || s == 7 || s == 8
set_option maxHeartbeats 400000 in
theorem stackN_any (s : Int) (w : World) : Calls Tryd.prog 38 #[.int .i64 s] w (Ret (.bool (stackNb s)) w) := by
  unfold stackNb
  cases q2 : (s == 2) <;> cases q7 : (s == 7)
  all_goals
    go_enter Tryd.func38, Tryd.ntmps38
    go_wp2
    go_ret
    exact ret_bool rfl
end Go.Proofs.YtjnmkelppjcofaaDoor
