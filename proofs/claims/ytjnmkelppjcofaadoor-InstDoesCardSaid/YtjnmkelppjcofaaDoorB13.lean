/- mask.Is, mask.Encode. -/
import Derived.Test.YtjnmkelppjcofaaDoorB12
import Derived.Outline
namespace Go.Proofs.YtjnmkelppjcofaaDoor
set_option linter.unusedVariables false
set_option linter.unusedSimpArgs false
open Go.RowKit

set_option maxHeartbeats 400000 in
theorem Is_any (v : Nat) (w : World) (hv : v < 18446744073709551616) (hT : Tab w) :
    Calls Tryd.prog 25 #[.int .u64 v] w (RetB (.bool (isS v)) w) := by
  rcases pat_or v hv with ⟨k, r, s, h⟩ | hn
  · have hp := h.pos
    rw [h.isS]
    have HF : Hid (Calls Tryd.prog 43 #[.int .u64 v] w (RetB (shapeV (s, r, k)) w)) := Lib.hid (by have := find_any v w hv hT; rwa [h.findS] at this)
    have q : ((s : Int) == 0) = false := by rw [beq_eq_false_iff_ne]; omega
    clear h hT
    go_enter Tryd.func25, Tryd.ntmps25
    go_wp2_with fail
    refine HF.out.mono ?_
    rintro e w1 ⟨rfl, hb⟩
    have HB := Lib.hid hb
    clear hb
    go_wp2
    go_ret
    exact ⟨rfl, HB.out⟩
  · rw [isS_none hv hn]
    have HF : Hid (Calls Tryd.prog 43 #[.int .u64 v] w (RetB (shapeV (0, 0, 0)) w)) := Lib.hid (by have := find_any v w hv hT; rwa [findS_none hv hn] at this)
    clear hn hT
    go_enter Tryd.func25, Tryd.ntmps25
    go_wp2_with fail
    refine HF.out.mono ?_
    rintro e w1 ⟨rfl, hb⟩
    have HB := Lib.hid hb
    clear hb
    go_wp2
    go_ret
    exact ⟨rfl, HB.out⟩

abbrev four (p : Int × Int × Int × Int) : Value := .tuple #[.int .i64 p.1, .int .i64 p.2.1, .int .i64 p.2.2.1, .int .i64 p.2.2.2]
theorem upper_b (s : Int) : 0 ≤ upperS s ∧ upperS s ≤ 1 := by unfold upperS; split <;> omega
theorem lead_b (s : Int) (h : 2 ≤ s) (h2 : s ≤ 64) : -64 ≤ leadS s ∧ leadS s ≤ 60 := by unfold leadS; split <;> omega

end Go.Proofs.YtjnmkelppjcofaaDoor
