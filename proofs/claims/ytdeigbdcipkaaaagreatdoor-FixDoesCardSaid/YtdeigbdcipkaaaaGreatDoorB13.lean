/- mask.Is, mask.Encode. -/
import Derived.Test.YtdeigbdcipkaaaaGreatDoorB12
import Derived.Outline
namespace Go.Proofs.YtdeigbdcipkaaaaGreatDoor
set_option linter.unusedVariables false
set_option linter.unusedSimpArgs false
open Go.RowKit

set_option maxHeartbeats 400000 in
theorem Is_any (v : Nat) (w : World) (hv : v < 18446744073709551616) (hT : Tab w) :
    Calls Tryz.prog 79 #[.int .u64 v] w (RetB (.bool (isS v)) w) := by
  rcases pat_or v hv with ⟨k, r, s, h⟩ | hn
  · have hp := h.pos
    rw [h.isS]
    have HF : Hid (Calls Tryz.prog 81 #[.int .u64 v] w (RetB (shapeV (s, r, k)) w)) := Lib.hid (by have := find_any v w hv hT; rwa [h.findS] at this)
    have q : ((s : Int) == 0) = false := by rw [beq_eq_false_iff_ne]; omega
    clear h hT
    go_enter Tryz.func79, Tryz.ntmps79
    go_wp2_with fail
    refine HF.out.mono ?_
    rintro e w1 ⟨rfl, hb⟩
    have HB := Lib.hid hb
    clear hb
    go_wp2
    go_ret
    exact ⟨rfl, HB.out⟩
  · rw [isS_none hv hn]
    have HF : Hid (Calls Tryz.prog 81 #[.int .u64 v] w (RetB (shapeV (0, 0, 0)) w)) := Lib.hid (by have := find_any v w hv hT; rwa [findS_none hv hn] at this)
    clear hn hT
    go_enter Tryz.func79, Tryz.ntmps79
    go_wp2_with fail
    refine HF.out.mono ?_
    rintro e w1 ⟨rfl, hb⟩
    have HB := Lib.hid hb
    clear hb
    go_wp2
    go_ret
    exact ⟨rfl, HB.out⟩

abbrev four (p : Int × Int × Int × Int) : Value := .tuple #[.int .i64 p.1, .int .i64 p.2.1, .int .i64 p.2.2.1, .int .i64 p.2.2.2]
theorem upper_b (s : Int) : 0 ≤ upperS s ∧ upperS s ≤ 1 := by unfold upperS; split <;> omega
theorem lead_b (s : Int) (h : 2 ≤ s) (h2 : s ≤ 64) : -64 ≤ leadS s ∧ leadS s ≤ 60 := by unfold leadS; split <;> omega

set_option maxHeartbeats 400000 in
theorem Encode_any (v : Nat) (w : World) (hv : v < 18446744073709551616) (hT : Tab w) :
    Calls Tryz.prog 59 #[.int .u64 v] w (RetB (four (encS v)) w) := by
  rcases pat_or v hv with ⟨k, r, s, h⟩ | hn
  · have hp := h.pos
    have hk := h.less
    have hr := h.turn
    rw [h.encS]
    have HF : Hid (Calls Tryz.prog 81 #[.int .u64 v] w (RetB (shapeV (s, r, k)) w)) := Lib.hid (by have := find_any v w hv hT; rwa [h.findS] at this)
    have HU : Hid (∀ w, Calls Tryz.prog 82 #[.int .i64 s] w (Ret (.int .i64 (upperS s)) w)) := Lib.hid fun w => upper_any s w
    have HL : Hid (∀ w, Calls Tryz.prog 83 #[.int .i64 s] w (Ret (.int .i64 (leadS s)) w)) := Lib.hid fun w => lead_any s w (by omega) (by omega)
    have q : ((s : Int) == 0) = false := by rw [beq_eq_false_iff_ne]; omega
    have lb := lead_b s (by omega) (by omega)
    clear h hT
    generalize upperS s = u at *
    generalize leadS s = l at *
    have i1 : IntKind.i64.wrap (l + k) = l + k := by rw [IntKind.wrap_i64]; omega
    have i2 : IntKind.i64.wrap (l + k - 1) = l + k - 1 := by rw [IntKind.wrap_i64]; omega
    go_enter Tryz.func59, Tryz.ntmps59
    go_wp2_with fail
    refine HF.out.mono ?_
    rintro e w1 ⟨rfl, hb⟩
    have HB := Lib.hid hb
    clear hb
    go_wp2
    go_quiet (first
      | (go_at_call 82; exact Calls.quiet_of_same ((HU.out _).mono fun e w' h => ⟨h.1, h.2.symm⟩))
      | (go_at_call 83; exact Calls.quiet_of_same ((HL.out _).mono fun e w' h => ⟨h.1, h.2.symm⟩)))
    go_wp2
    refine bodyPost_ret (v := four (u, r, l + k - 1, 0)) (by simp [results, Tryz.results59, go_sem, i1, i2]) rfl ⟨rfl, ?_⟩
    exact below_drewN (HB.out.alloc HB.out.size _) _
  · rw [encS_none hv hn]
    have HF : Hid (Calls Tryz.prog 81 #[.int .u64 v] w (RetB (shapeV (0, 0, 0)) w)) := Lib.hid (by have := find_any v w hv hT; rwa [findS_none hv hn] at this)
    clear hn hT
    go_enter Tryz.func59, Tryz.ntmps59
    go_wp2_with fail
    refine HF.out.mono ?_
    rintro e w1 ⟨rfl, hb⟩
    have HB := Lib.hid hb
    clear hb
    go_wp2
    refine bodyPost_ret (v := four (0, 0, 0, 3)) (by simp [results, Tryz.results59, go_sem]) rfl ⟨rfl, HB.out.alloc HB.out.size _⟩
end Go.Proofs.YtdeigbdcipkaaaaGreatDoor
