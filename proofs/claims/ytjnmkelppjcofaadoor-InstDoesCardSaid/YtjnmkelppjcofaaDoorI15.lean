/- The reference's Name. -/
import Derived.Test.YtjnmkelppjcofaaDoorI14
namespace Go.Proofs.YtjnmkelppjcofaaDoor
set_option linter.unusedVariables false
set_option linter.unusedSimpArgs false
open Go.RowKit

theorem retB_sb {x : ByteArray} {b : Int} {p : ByteArray × Int} {w w' : World} (h : p = (x, b)) (hb : Below w.heap.size w w') : RetB (sb p) w (.returned (.tuple #[.string x, .int .i64 b])) w' := by subst h; exact ⟨rfl, hb⟩
set_option maxHeartbeats 400000 in
theorem RName_any (op : Int) (w : World) : Calls Tryd.prog 18 #[.int .i64 op] w (RetB (sb (nameI op)) w) := by
  have HSh : Hid (Calls Tryd.prog 20 #[.int .i64 op] w (RetB (.int .i64 (shapeI op)) w)) := Lib.hid (RShape_any op w)
  by_cases h0 : shapeI op = 0
  · have H : Hid (nameI op = (⟨#[]⟩, 1)) := Lib.hid (by unfold nameI; rw [if_pos h0])
    rw [h0] at HSh
    clear h0
    go_enter Tryd.func18, Tryd.ntmps18
    go_wp2_with fail
    refine HSh.out.mono ?_
    rintro e w1 ⟨rfl, hb⟩
    have HB := Lib.hid hb
    clear hb
    go_wp2
    go_ret2
    exact retB_sb H.out HB.out
  · have hr : ¬ (op < 1 ∨ 39 < op) := fun c => h0 (by unfold shapeI; rw [if_pos c])
    obtain ⟨k, rfl⟩ := Int.eq_ofNat_of_zero_le (show 0 ≤ op by omega)
    have H : Hid (nameI (k : Int) = (nmB k, 0)) := Lib.hid (by unfold nameI; rw [if_neg h0]; rfl)
    have k1 : 1 ≤ k := by omega
    have k2 : k ≤ 39 := by omega
    have q : (shapeI (k : Int) == 0) = false := by rw [beq_eq_false_iff_ne]; exact h0
    clear h0 hr
    generalize shapeI (k : Int) = s at *
    go_enter Tryd.func18, Tryd.ntmps18
    go_wp2_with fail
    refine HSh.out.mono ?_
    rintro e w1 ⟨rfl, hb⟩
    have HB := Lib.hid hb
    clear hb
    go_wp2_with fail
    refine (Rnames_any w1).mono ?_
    rintro e w2 ⟨rfl, hb, hlt, hc⟩
    have HB2 := Lib.hid (HB.out.trans (hb.mono HB.out.size))
    have hcell := hc k (by omega)
    clear hb hc
    generalize nmB k = v at *
    go_wp2
    go_ret2
    exact retB_sb H.out HB2.out
end Go.Proofs.YtjnmkelppjcofaaDoor
