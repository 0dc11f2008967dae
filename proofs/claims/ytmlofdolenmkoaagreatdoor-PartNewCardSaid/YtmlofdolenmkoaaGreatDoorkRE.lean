/- PartNew's reference: shift, Name, New. -/
import Derived.Test.YtmlofdolenmkoaaGreatDoorkRD
namespace Go.Proofs.YtmlofdolenmkoaaGreatDoor
set_option linter.unusedVariables false
set_option linter.unusedSimpArgs false
open Go.ChangeShapes Go.WideShapes Go.Deep Go.RowKit

theorem lst_ne' {s : ByteArray} {l : List UInt8} (h : s.data.toList ≠ l) : (l == s.toList) = false := by
  rw [beq_eq_false_iff_ne, ByteArray.toList_eq]; exact fun e => h e.symm
set_option maxRecDepth 100000 in
set_option maxHeartbeats 2000000 in
theorem rShift_any (s : ByteArray) (w : World) : Calls Tryz.prog 144 #[.string s] w (RetB (.int .i64 (shiftL s.data.toList)) w) := by
  have hHB : Below w.heap.size w (w.alloc (.cells #[.string ⟨#[108, 115, 108]⟩, .string ⟨#[108, 115, 114]⟩, .string ⟨#[97, 115, 114]⟩, .string ⟨#[114, 111, 114]⟩] 9)) := (Below.refl _ w).alloc (Nat.le_refl _) _
  have HB := Lib.hid hHB
  have HRB : RB (w.alloc (.cells #[.string ⟨#[108, 115, 108]⟩, .string ⟨#[108, 115, 114]⟩, .string ⟨#[97, 115, 114]⟩, .string ⟨#[114, 111, 114]⟩] 9)) w.heap.size #[.string ⟨#[108, 115, 108]⟩, .string ⟨#[108, 115, 114]⟩, .string ⟨#[97, 115, 114]⟩, .string ⟨#[114, 111, 114]⟩] 9 := (MapKept.heap_alloc w _).1
  have c0 : (w.alloc (.cells #[.string ⟨#[108, 115, 108]⟩, .string ⟨#[108, 115, 114]⟩, .string ⟨#[97, 115, 114]⟩, .string ⟨#[114, 111, 114]⟩] 9)).cell? ⟨w.heap.size, 0, none⟩ = some (.string ⟨#[108, 115, 108]⟩) := HRB.cell
  have c1 : (w.alloc (.cells #[.string ⟨#[108, 115, 108]⟩, .string ⟨#[108, 115, 114]⟩, .string ⟨#[97, 115, 114]⟩, .string ⟨#[114, 111, 114]⟩] 9)).cell? ⟨w.heap.size, 1, none⟩ = some (.string ⟨#[108, 115, 114]⟩) := HRB.cell
  have c2 : (w.alloc (.cells #[.string ⟨#[108, 115, 108]⟩, .string ⟨#[108, 115, 114]⟩, .string ⟨#[97, 115, 114]⟩, .string ⟨#[114, 111, 114]⟩] 9)).cell? ⟨w.heap.size, 2, none⟩ = some (.string ⟨#[97, 115, 114]⟩) := HRB.cell
  have c3 : (w.alloc (.cells #[.string ⟨#[108, 115, 108]⟩, .string ⟨#[108, 115, 114]⟩, .string ⟨#[97, 115, 114]⟩, .string ⟨#[114, 111, 114]⟩] 9)).cell? ⟨w.heap.size, 3, none⟩ = some (.string ⟨#[114, 111, 114]⟩) := HRB.cell
  clear HRB hHB
  have hc : (∃ r : Int, (s = ⟨#[108, 115, 108]⟩ ∧ r = 0) ∨ (s = ⟨#[108, 115, 114]⟩ ∧ r = 1) ∨ (s = ⟨#[97, 115, 114]⟩ ∧ r = 2) ∨ (s = ⟨#[114, 111, 114]⟩ ∧ r = 3)) ∨ (s.data.toList ≠ [108, 115, 108] ∧ s.data.toList ≠ [108, 115, 114] ∧ s.data.toList ≠ [97, 115, 114] ∧ s.data.toList ≠ [114, 111, 114]) := by
    by_cases h0 : s.data.toList = [108, 115, 108]
    · exact .inl ⟨_, .inl ⟨ba_ext h0, rfl⟩⟩
    by_cases h1 : s.data.toList = [108, 115, 114]
    · exact .inl ⟨_, .inr (.inl ⟨ba_ext h1, rfl⟩)⟩
    by_cases h2 : s.data.toList = [97, 115, 114]
    · exact .inl ⟨_, .inr (.inr (.inl ⟨ba_ext h2, rfl⟩))⟩
    by_cases h3 : s.data.toList = [114, 111, 114]
    · exact .inl ⟨_, .inr (.inr (.inr ⟨ba_ext h3, rfl⟩))⟩
    exact .inr ⟨h0, h1, h2, h3⟩
  rcases hc with ⟨r, ⟨rfl, rfl⟩ | ⟨rfl, rfl⟩ | ⟨rfl, rfl⟩ | ⟨rfl, rfl⟩⟩ | ⟨h0, h1, h2, h3⟩
  rotate_left 4
  · have n0 := lst_ne h0
    have n1 := lst_ne h1
    have n2 := lst_ne h2
    have n3 := lst_ne h3
    have m0 := lst_ne' h0
    have m1 := lst_ne' h1
    have m2 := lst_ne' h2
    have m3 := lst_ne' h3
    have HE : Hid (shiftL s.data.toList = -1) := Lib.hid (by unfold shiftL; rw [if_neg h0, if_neg h1, if_neg h2, if_neg h3])
    clear h0 h1 h2 h3
    go_enter Tryz.func144, Tryz.ntmps144
    go_wp2
    refine wp_loop_rounds 5 ?_
    rw [rounds_succ]
    go_wp2
    all_goals (try (rw [rounds_succ]; go_wp2))
    all_goals (try (rw [rounds_succ]; go_wp2))
    all_goals (try (rw [rounds_succ]; go_wp2))
    all_goals (try (rw [rounds_succ]; go_wp2))
    all_goals (go_ret; exact ⟨by rw [HE.out]; rfl, HB.out⟩)
  all_goals
    go_enter Tryz.func144, Tryz.ntmps144
    go_wp2
    refine wp_loop_rounds 5 ?_
    rw [rounds_succ]
    go_wp2
    all_goals (try (rw [rounds_succ]; go_wp2))
    all_goals (try (rw [rounds_succ]; go_wp2))
    all_goals (try (rw [rounds_succ]; go_wp2))
    all_goals (try (rw [rounds_succ]; go_wp2))
    all_goals (go_ret; exact ⟨rfl, HB.out⟩)
set_option maxRecDepth 100000 in
set_option maxHeartbeats 1000000 in
theorem named_w (s : ByteArray) (hs : s.size ≤ 1000) (w : World) (h : isWordL s.data.toList = false) : Calls Tryz.prog 107 #[.agg #[.int .i64 1, .string s, .int .u64 0]] w (RetB (.bool (isNmL s.data.toList)) w) := by
  obtain ⟨ln, lu, hlv⟩ := label_v s.data.toList
  have HLb : Hid (∀ w, Calls Tryz.prog 141 #[.string s] w (Ret (.tuple #[.int .i64 ln, .bool lu, .bool (labB s.data.toList)]) w)) := Lib.hid (fun w => by
    have := rLabel_any s (by unfold maxLen; omega) w
    rwa [hlv] at this)
  generalize labB s.data.toList = lb at HLb
  obtain ⟨r0, r1, r2, hr⟩ : ∃ r0 r1 r2, regL s.data.toList = (r0, r1, r2) := ⟨_, _, _, rfl⟩
  have HRg : Hid (∀ w, Calls Tryz.prog 142 #[.string s] w (Ret (.tuple #[.int .i64 r0, .bool r1, .int .i64 r2]) w)) := Lib.hid (fun w => by
    have := rReg_any s w
    rwa [hr] at this)
  have HW := Lib.hid (fun w => rIsWord_any s hs w)
  have HS := Lib.hid (fun w => rShift_any s w)
  have hE : isNmL s.data.toList = (isWordL s.data.toList && decide (r2 ≠ 0) && decide (shiftL s.data.toList < 0)) := by unfold isNmL; rw [hr]
  rw [h] at HW hE
  have HE := Lib.hid hE
  clear hlv hr hE
  have HB : Hid (Below w.heap.size w w) := Lib.hid (Below.refl _ w)
  generalize isNmL s.data.toList = R at HE ⊢
  go_enter Tryz.func107, Tryz.ntmps107
  obtain ⟨X, hX⟩ : ∃ X, X = w.heap.size := ⟨_, rfl⟩
  have HXE := Lib.hid hX
  have HX : Hid (RB (w.alloc (.cells #[.int .i64 1, .string s, .int .u64 0] 115)) X #[.int .i64 1, .string s, .int .u64 0] 115) := Lib.hid (by rw [hX]; exact (MapKept.heap_alloc w _).1)
  have HBW : Hid (Below w.heap.size w (w.alloc (.cells #[.int .i64 1, .string s, .int .u64 0] 115))) := Lib.hid ((Below.refl _ w).alloc (Nat.le_refl _) _)
  clear hX
  go_wp2_with fail
  try rw [← HXE.out]
  generalize w.alloc (.cells #[.int .i64 1, .string s, .int .u64 0] 115) = W at HX HBW ⊢
  have x0 : W.cell? ⟨X, 0, none⟩ = some (.int .i64 1) := HX.out.cell
  have x1 : W.cell? ⟨X, 1, none⟩ = some (.string s) := HX.out.cell
  clear HXE HX
  refine (HLb.out _).mono ?_
  rintro e u ⟨rfl, rfl⟩
  go_wp2_with fail
  refine (HRg.out _).mono ?_
  rintro e u ⟨rfl, rfl⟩
  go_wp2_with fail
  refine (HW.out _).mono ?_
  rintro e u ⟨rfl, rfl⟩
  go_wp2
  go_ret
  exact retB_bool (by rw [HE.out]; rfl) HBW.out
set_option maxRecDepth 100000 in
set_option maxHeartbeats 1000000 in
theorem named_r (s : ByteArray) (hs : s.size ≤ 1000) (w : World) (h : isWordL s.data.toList = true) (hr0 : (regL s.data.toList).2.2 = 0) : Calls Tryz.prog 107 #[.agg #[.int .i64 1, .string s, .int .u64 0]] w (RetB (.bool (isNmL s.data.toList)) w) := by
  obtain ⟨ln, lu, hlv⟩ := label_v s.data.toList
  have HLb : Hid (∀ w, Calls Tryz.prog 141 #[.string s] w (Ret (.tuple #[.int .i64 ln, .bool lu, .bool (labB s.data.toList)]) w)) := Lib.hid (fun w => by
    have := rLabel_any s (by unfold maxLen; omega) w
    rwa [hlv] at this)
  generalize labB s.data.toList = lb at HLb
  obtain ⟨r0, r1, r2, hr⟩ : ∃ r0 r1 r2, regL s.data.toList = (r0, r1, r2) := ⟨_, _, _, rfl⟩
  have HRg : Hid (∀ w, Calls Tryz.prog 142 #[.string s] w (Ret (.tuple #[.int .i64 r0, .bool r1, .int .i64 r2]) w)) := Lib.hid (fun w => by
    have := rReg_any s w
    rwa [hr] at this)
  have HW := Lib.hid (fun w => rIsWord_any s hs w)
  have HS := Lib.hid (fun w => rShift_any s w)
  have hE : isNmL s.data.toList = (isWordL s.data.toList && decide (r2 ≠ 0) && decide (shiftL s.data.toList < 0)) := by unfold isNmL; rw [hr]
  rw [h] at HW hE
  rw [hr] at hr0
  simp only at hr0
  subst hr0
  have HE := Lib.hid hE
  clear hlv hr hE
  have HB : Hid (Below w.heap.size w w) := Lib.hid (Below.refl _ w)
  generalize isNmL s.data.toList = R at HE ⊢
  go_enter Tryz.func107, Tryz.ntmps107
  obtain ⟨X, hX⟩ : ∃ X, X = w.heap.size := ⟨_, rfl⟩
  have HXE := Lib.hid hX
  have HX : Hid (RB (w.alloc (.cells #[.int .i64 1, .string s, .int .u64 0] 115)) X #[.int .i64 1, .string s, .int .u64 0] 115) := Lib.hid (by rw [hX]; exact (MapKept.heap_alloc w _).1)
  have HBW : Hid (Below w.heap.size w (w.alloc (.cells #[.int .i64 1, .string s, .int .u64 0] 115))) := Lib.hid ((Below.refl _ w).alloc (Nat.le_refl _) _)
  clear hX
  go_wp2_with fail
  try rw [← HXE.out]
  generalize w.alloc (.cells #[.int .i64 1, .string s, .int .u64 0] 115) = W at HX HBW ⊢
  have x0 : W.cell? ⟨X, 0, none⟩ = some (.int .i64 1) := HX.out.cell
  have x1 : W.cell? ⟨X, 1, none⟩ = some (.string s) := HX.out.cell
  clear HXE HX
  refine (HLb.out _).mono ?_
  rintro e u ⟨rfl, rfl⟩
  go_wp2_with fail
  refine (HRg.out _).mono ?_
  rintro e u ⟨rfl, rfl⟩
  go_wp2_with fail
  refine (HW.out _).mono ?_
  rintro e u ⟨rfl, rfl⟩
  go_wp2
  go_ret
  exact retB_bool (by rw [HE.out]; rfl) HBW.out
set_option maxRecDepth 100000 in
set_option maxHeartbeats 1000000 in
theorem named_s (s : ByteArray) (hs : s.size ≤ 1000) (w : World) (h : isWordL s.data.toList = true) (hr0 : (regL s.data.toList).2.2 ≠ 0) : Calls Tryz.prog 107 #[.agg #[.int .i64 1, .string s, .int .u64 0]] w (RetB (.bool (isNmL s.data.toList)) w) := by
  obtain ⟨ln, lu, hlv⟩ := label_v s.data.toList
  have HLb : Hid (∀ w, Calls Tryz.prog 141 #[.string s] w (Ret (.tuple #[.int .i64 ln, .bool lu, .bool (labB s.data.toList)]) w)) := Lib.hid (fun w => by
    have := rLabel_any s (by unfold maxLen; omega) w
    rwa [hlv] at this)
  generalize labB s.data.toList = lb at HLb
  obtain ⟨r0, r1, r2, hr⟩ : ∃ r0 r1 r2, regL s.data.toList = (r0, r1, r2) := ⟨_, _, _, rfl⟩
  have HRg : Hid (∀ w, Calls Tryz.prog 142 #[.string s] w (Ret (.tuple #[.int .i64 r0, .bool r1, .int .i64 r2]) w)) := Lib.hid (fun w => by
    have := rReg_any s w
    rwa [hr] at this)
  have HW := Lib.hid (fun w => rIsWord_any s hs w)
  have HS := Lib.hid (fun w => rShift_any s w)
  have hE : isNmL s.data.toList = (isWordL s.data.toList && decide (r2 ≠ 0) && decide (shiftL s.data.toList < 0)) := by unfold isNmL; rw [hr]
  rw [h] at HW hE
  rw [hr] at hr0
  simp only at hr0
  rw [decide_eq_true hr0] at hE
  have e1 : (r2 != 0) = true := by rw [bne_iff_ne]; exact hr0
  generalize shiftL s.data.toList = q at HS hE
  clear hr0
  have HE := Lib.hid hE
  clear hlv hr hE
  have HB : Hid (Below w.heap.size w w) := Lib.hid (Below.refl _ w)
  generalize isNmL s.data.toList = R at HE ⊢
  go_enter Tryz.func107, Tryz.ntmps107
  obtain ⟨X, hX⟩ : ∃ X, X = w.heap.size := ⟨_, rfl⟩
  have HXE := Lib.hid hX
  have HX : Hid (RB (w.alloc (.cells #[.int .i64 1, .string s, .int .u64 0] 115)) X #[.int .i64 1, .string s, .int .u64 0] 115) := Lib.hid (by rw [hX]; exact (MapKept.heap_alloc w _).1)
  have HBW : Hid (Below w.heap.size w (w.alloc (.cells #[.int .i64 1, .string s, .int .u64 0] 115))) := Lib.hid ((Below.refl _ w).alloc (Nat.le_refl _) _)
  clear hX
  go_wp2_with fail
  try rw [← HXE.out]
  generalize w.alloc (.cells #[.int .i64 1, .string s, .int .u64 0] 115) = W at HX HBW ⊢
  have x0 : W.cell? ⟨X, 0, none⟩ = some (.int .i64 1) := HX.out.cell
  have x1 : W.cell? ⟨X, 1, none⟩ = some (.string s) := HX.out.cell
  clear HXE HX
  refine (HLb.out _).mono ?_
  rintro e u ⟨rfl, rfl⟩
  go_wp2_with fail
  refine (HRg.out _).mono ?_
  rintro e u ⟨rfl, rfl⟩
  go_wp2_with fail
  refine (HW.out _).mono ?_
  rintro e u ⟨rfl, rfl⟩
  go_wp2_with fail
  refine (HS.out _).mono ?_
  rintro e u ⟨rfl, hb⟩
  have HB2 := Lib.hid (after HBW.out hb)
  clear hb
  go_wp2
  go_ret
  exact retB_bool (by rw [HE.out]; rfl) HB2.out
theorem rNamed_any (s : ByteArray) (hs : s.size ≤ 1000) (w : World) : Calls Tryz.prog 107 #[.agg #[.int .i64 1, .string s, .int .u64 0]] w (RetB (.bool (isNmL s.data.toList)) w) := by
  cases h : isWordL s.data.toList
  · exact named_w s hs w h
  · by_cases hr : (regL s.data.toList).2.2 = 0
    · exact named_r s hs w h hr
    · exact named_s s hs w h hr
set_option maxRecDepth 100000 in
theorem rName_any (s : ByteArray) (hs : s.size ≤ 1000) (w : World) : Calls Tryz.prog 70 #[.string s] w (RetB (.bool (isNmL s.data.toList)) w) := by
  have HN := Lib.hid (fun w => rNamed_any s hs w)
  clear hs
  go_enter Tryz.func70, Tryz.ntmps70
  go_wp2_with fail
  refine (HN.out _).mono ?_
  rintro e u ⟨rfl, hb⟩
  have HB := Lib.hid hb
  clear hb
  go_wp2
  go_ret
  exact retB_bool rfl HB.out
theorem rIsName_any (s : ByteArray) (hs : s.size ≤ 1000) (w : World) : Calls Tryz.prog 38 #[.string s] w (RetB (.bool (isNmL s.data.toList)) w) := by
  have HN := Lib.hid (fun w => rName_any s hs w)
  clear hs
  go_enter Tryz.func38, Tryz.ntmps38
  go_wp2_with fail
  refine (HN.out _).mono ?_
  rintro e u ⟨rfl, hb⟩
  have HB := Lib.hid hb
  clear hb
  go_wp2
  go_ret
  exact retB_bool rfl HB.out
end Go.Proofs.YtmlofdolenmkoaaGreatDoor
