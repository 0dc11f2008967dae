/- (code.word).mask, (code.word).inst, shape by shape. -/
import Derived.Test.YtdeigbdcipkaaaaGreatDoorC7
namespace Go.Proofs.YtdeigbdcipkaaaaGreatDoor
set_option linter.unusedVariables false
set_option linter.unusedSimpArgs false
open Go.RowKit

theorem sgn19 {v : Int} (h : 0 ≤ v ∧ v < 524288) : -262144 ≤ (sgn v 19).1 ∧ (sgn v 19).1 < 262144 := by
  unfold sgn
  simp only [Int.reduceToNat, Nat.reduceSub, Int.reducePow]
  repeat' split
  all_goals (try simp only [])
  all_goals omega
theorem sgn26 {v : Int} (h : 0 ≤ v ∧ v < 67108864) : -33554432 ≤ (sgn v 26).1 ∧ (sgn v 26).1 < 33554432 := by
  unfold sgn
  simp only [Int.reduceToNat, Nat.reduceSub, Int.reducePow]
  repeat' split
  all_goals (try simp only [])
  all_goals omega

theorem bel_alloc {w w' : World} (h : Below w.heap.size w w') (o : Obj) : Below w.heap.size w (w'.alloc o) := h.alloc h.size o
theorem bel_set {w w' : World} (h : Below w.heap.size w w') {b o : Nat} {u : Value} (hb : w.heap.size ≤ b) : Below w.heap.size w (w'.setCell ⟨b, o, none⟩ u) := h.setCell (p := ⟨b, o, none⟩) hb u

set_option maxRecDepth 100000 in
set_option maxHeartbeats 4000000 in
theorem winst1 (x : Nat) (hx : x < 4294967296) (w : World) (hw : Tab6 w) (hs : shapeI (opW x : Nat) = 1) : Calls Tryz.prog 36 #[.int .u32 x] w (RetB (inV (decW (opW x : Nat) 1 x)) w) := by
  have HT := Lib.hid hw
  have HOp : Hid (∀ w, Tab6 w → Calls Tryz.prog 49 #[.int .u32 x] w (RetD (.int .i64 (opW x : Nat)) w)) := Lib.hid fun w h => Opcode_any x hx w h
  have HSh : Hid (∀ w, Tab6 w → Calls Tryz.prog 51 #[.int .i64 (opW x : Nat)] w (Ret (.int .i64 1) w)) := Lib.hid fun w h => by have := Shape_any (opW x : Nat) w h.1; rwa [hs] at this
  have HN0_5 : Hid (∀ w, Calls Tryz.prog 50 #[.int .u32 x, .int .i64 0, .int .i64 5] w (RetD (.int .i64 (fw x 0 5)) w)) := Lib.hid fun w => number_any x 0 5 hx (by decide) (by decide) w
  have hb0_5 := fw_lt x 0 5
  have HN5_5 : Hid (∀ w, Calls Tryz.prog 50 #[.int .u32 x, .int .i64 5, .int .i64 5] w (RetD (.int .i64 (fw x 5 5)) w)) := Lib.hid fun w => number_any x 5 5 hx (by decide) (by decide) w
  have hb5_5 := fw_lt x 5 5
  have HN16_5 : Hid (∀ w, Calls Tryz.prog 50 #[.int .u32 x, .int .i64 16, .int .i64 5] w (RetD (.int .i64 (fw x 16 5)) w)) := Lib.hid fun w => number_any x 16 5 hx (by decide) (by decide) w
  have hb16_5 := fw_lt x 16 5
  have HN5_16 : Hid (∀ w, Calls Tryz.prog 50 #[.int .u32 x, .int .i64 5, .int .i64 16] w (RetD (.int .i64 (fw x 5 16)) w)) := Lib.hid fun w => number_any x 5 16 hx (by decide) (by decide) w
  have hb5_16 := fw_lt x 5 16
  have HN21_2 : Hid (∀ w, Calls Tryz.prog 50 #[.int .u32 x, .int .i64 21, .int .i64 2] w (RetD (.int .i64 (fw x 21 2)) w)) := Lib.hid fun w => number_any x 21 2 hx (by decide) (by decide) w
  have hb21_2 := fw_lt x 21 2
  have HD : Hid (decW (opW x : Nat) 1 x = ⟨(opW x : Nat), (fw x 0 5), 0, 0, 0, (fw x 5 16), 0, 0, (16 * (fw x 21 2)), 0⟩) := Lib.hid rfl
  generalize fw x 0 5 = f0_5 at *
  generalize fw x 5 5 = f5_5 at *
  generalize fw x 16 5 = f16_5 at *
  generalize fw x 5 16 = f5_16 at *
  generalize fw x 21 2 = f21_2 at *
  simp only [Int.reducePow] at hb0_5 hb5_5 hb16_5 hb5_16 hb21_2
  generalize opW x = op at *
  clear hw hs
  have hZ : ∀ w, (zeroValue 44).run Tryz.prog w = .ok (.agg (inC inZ)) w := fun w => by kernel_rfl
  rw [HD.out]
  go_enter Tryz.func36, Tryz.ntmps36
  go_wp2_with (first | (go_at_call 49; ((with_reducible refine (HOp.out _ (HT.out.below ?_)).mono ?_); rotate_left; rintro e w' ⟨rfl, m, rfl⟩)) | (go_at_call 51; ((with_reducible refine (HSh.out _ (HT.out.below ?_)).mono ?_); rotate_left; rintro e w' ⟨rfl, rfl⟩)) | (go_at_call 50; ((with_reducible refine (HN0_5.out _).mono ?_); rintro e w' ⟨rfl, m, rfl⟩)) | (go_at_call 50; ((with_reducible refine (HN5_5.out _).mono ?_); rintro e w' ⟨rfl, m, rfl⟩)) | (go_at_call 50; ((with_reducible refine (HN16_5.out _).mono ?_); rintro e w' ⟨rfl, m, rfl⟩)) | (go_at_call 50; ((with_reducible refine (HN5_16.out _).mono ?_); rintro e w' ⟨rfl, m, rfl⟩)) | (go_at_call 50; ((with_reducible refine (HN21_2.out _).mono ?_); rintro e w' ⟨rfl, m, rfl⟩)))
  refine bodyPost_ret (v := inV _) (by simp [results, Tryz.results36, go_sem]) rfl ⟨rfl, ?_⟩
  all_goals
    repeat' (first | (with_reducible exact Below.refl _ _) | (with_reducible exact Nat.le_refl _) | (with_reducible exact Nat.le_succ _) | (with_reducible refine below_drewN ?_ _) | (with_reducible refine bel_set ?_ ?_) | (with_reducible refine bel_alloc ?_ _))

set_option maxRecDepth 100000 in
set_option maxHeartbeats 4000000 in
theorem winst2 (x : Nat) (hx : x < 4294967296) (w : World) (hw : Tab6 w) (hs : shapeI (opW x : Nat) = 2) : Calls Tryz.prog 36 #[.int .u32 x] w (RetB (inV (decW (opW x : Nat) 2 x)) w) := by
  have HT := Lib.hid hw
  have HOp : Hid (∀ w, Tab6 w → Calls Tryz.prog 49 #[.int .u32 x] w (RetD (.int .i64 (opW x : Nat)) w)) := Lib.hid fun w h => Opcode_any x hx w h
  have HSh : Hid (∀ w, Tab6 w → Calls Tryz.prog 51 #[.int .i64 (opW x : Nat)] w (Ret (.int .i64 2) w)) := Lib.hid fun w h => by have := Shape_any (opW x : Nat) w h.1; rwa [hs] at this
  have HN0_5 : Hid (∀ w, Calls Tryz.prog 50 #[.int .u32 x, .int .i64 0, .int .i64 5] w (RetD (.int .i64 (fw x 0 5)) w)) := Lib.hid fun w => number_any x 0 5 hx (by decide) (by decide) w
  have hb0_5 := fw_lt x 0 5
  have HN5_5 : Hid (∀ w, Calls Tryz.prog 50 #[.int .u32 x, .int .i64 5, .int .i64 5] w (RetD (.int .i64 (fw x 5 5)) w)) := Lib.hid fun w => number_any x 5 5 hx (by decide) (by decide) w
  have hb5_5 := fw_lt x 5 5
  have HN16_5 : Hid (∀ w, Calls Tryz.prog 50 #[.int .u32 x, .int .i64 16, .int .i64 5] w (RetD (.int .i64 (fw x 16 5)) w)) := Lib.hid fun w => number_any x 16 5 hx (by decide) (by decide) w
  have hb16_5 := fw_lt x 16 5
  have HN10_12 : Hid (∀ w, Calls Tryz.prog 50 #[.int .u32 x, .int .i64 10, .int .i64 12] w (RetD (.int .i64 (fw x 10 12)) w)) := Lib.hid fun w => number_any x 10 12 hx (by decide) (by decide) w
  have hb10_12 := fw_lt x 10 12
  have HN22_1 : Hid (∀ w, Calls Tryz.prog 50 #[.int .u32 x, .int .i64 22, .int .i64 1] w (RetD (.int .i64 (fw x 22 1)) w)) := Lib.hid fun w => number_any x 22 1 hx (by decide) (by decide) w
  have hb22_1 := fw_lt x 22 1
  have HD : Hid (decW (opW x : Nat) 2 x = ⟨(opW x : Nat), (fw x 0 5), (fw x 5 5), 0, 0, (fw x 10 12), 0, 0, (12 * (fw x 22 1)), 0⟩) := Lib.hid rfl
  generalize fw x 0 5 = f0_5 at *
  generalize fw x 5 5 = f5_5 at *
  generalize fw x 16 5 = f16_5 at *
  generalize fw x 10 12 = f10_12 at *
  generalize fw x 22 1 = f22_1 at *
  simp only [Int.reducePow] at hb0_5 hb5_5 hb16_5 hb10_12 hb22_1
  generalize opW x = op at *
  clear hw hs
  have hZ : ∀ w, (zeroValue 44).run Tryz.prog w = .ok (.agg (inC inZ)) w := fun w => by kernel_rfl
  rw [HD.out]
  go_enter Tryz.func36, Tryz.ntmps36
  go_wp2_with (first | (go_at_call 49; ((with_reducible refine (HOp.out _ (HT.out.below ?_)).mono ?_); rotate_left; rintro e w' ⟨rfl, m, rfl⟩)) | (go_at_call 51; ((with_reducible refine (HSh.out _ (HT.out.below ?_)).mono ?_); rotate_left; rintro e w' ⟨rfl, rfl⟩)) | (go_at_call 50; ((with_reducible refine (HN0_5.out _).mono ?_); rintro e w' ⟨rfl, m, rfl⟩)) | (go_at_call 50; ((with_reducible refine (HN5_5.out _).mono ?_); rintro e w' ⟨rfl, m, rfl⟩)) | (go_at_call 50; ((with_reducible refine (HN16_5.out _).mono ?_); rintro e w' ⟨rfl, m, rfl⟩)) | (go_at_call 50; ((with_reducible refine (HN10_12.out _).mono ?_); rintro e w' ⟨rfl, m, rfl⟩)) | (go_at_call 50; ((with_reducible refine (HN22_1.out _).mono ?_); rintro e w' ⟨rfl, m, rfl⟩)))
  refine bodyPost_ret (v := inV _) (by simp [results, Tryz.results36, go_sem]) rfl ⟨rfl, ?_⟩
  all_goals
    repeat' (first | (with_reducible exact Below.refl _ _) | (with_reducible exact Nat.le_refl _) | (with_reducible exact Nat.le_succ _) | (with_reducible refine below_drewN ?_ _) | (with_reducible refine bel_set ?_ ?_) | (with_reducible refine bel_alloc ?_ _))

set_option maxRecDepth 100000 in
set_option maxHeartbeats 4000000 in
theorem winst4 (x : Nat) (hx : x < 4294967296) (w : World) (hw : Tab6 w) (hs : shapeI (opW x : Nat) = 4) : Calls Tryz.prog 36 #[.int .u32 x] w (RetB (inV (decW (opW x : Nat) 4 x)) w) := by
  have HT := Lib.hid hw
  have HOp : Hid (∀ w, Tab6 w → Calls Tryz.prog 49 #[.int .u32 x] w (RetD (.int .i64 (opW x : Nat)) w)) := Lib.hid fun w h => Opcode_any x hx w h
  have HSh : Hid (∀ w, Tab6 w → Calls Tryz.prog 51 #[.int .i64 (opW x : Nat)] w (Ret (.int .i64 4) w)) := Lib.hid fun w h => by have := Shape_any (opW x : Nat) w h.1; rwa [hs] at this
  have HN0_5 : Hid (∀ w, Calls Tryz.prog 50 #[.int .u32 x, .int .i64 0, .int .i64 5] w (RetD (.int .i64 (fw x 0 5)) w)) := Lib.hid fun w => number_any x 0 5 hx (by decide) (by decide) w
  have hb0_5 := fw_lt x 0 5
  have HN5_5 : Hid (∀ w, Calls Tryz.prog 50 #[.int .u32 x, .int .i64 5, .int .i64 5] w (RetD (.int .i64 (fw x 5 5)) w)) := Lib.hid fun w => number_any x 5 5 hx (by decide) (by decide) w
  have hb5_5 := fw_lt x 5 5
  have HN16_5 : Hid (∀ w, Calls Tryz.prog 50 #[.int .u32 x, .int .i64 16, .int .i64 5] w (RetD (.int .i64 (fw x 16 5)) w)) := Lib.hid fun w => number_any x 16 5 hx (by decide) (by decide) w
  have hb16_5 := fw_lt x 16 5
  have HN22_2 : Hid (∀ w, Calls Tryz.prog 50 #[.int .u32 x, .int .i64 22, .int .i64 2] w (RetD (.int .i64 (fw x 22 2)) w)) := Lib.hid fun w => number_any x 22 2 hx (by decide) (by decide) w
  have hb22_2 := fw_lt x 22 2
  have HN10_6 : Hid (∀ w, Calls Tryz.prog 50 #[.int .u32 x, .int .i64 10, .int .i64 6] w (RetD (.int .i64 (fw x 10 6)) w)) := Lib.hid fun w => number_any x 10 6 hx (by decide) (by decide) w
  have hb10_6 := fw_lt x 10 6
  have HD : Hid (decW (opW x : Nat) 4 x = ⟨(opW x : Nat), (fw x 0 5), (fw x 5 5), (fw x 16 5), 0, 0, 0, (fw x 22 2), (fw x 10 6), 0⟩) := Lib.hid rfl
  generalize fw x 0 5 = f0_5 at *
  generalize fw x 5 5 = f5_5 at *
  generalize fw x 16 5 = f16_5 at *
  generalize fw x 22 2 = f22_2 at *
  generalize fw x 10 6 = f10_6 at *
  simp only [Int.reducePow] at hb0_5 hb5_5 hb16_5 hb22_2 hb10_6
  generalize opW x = op at *
  clear hw hs
  have hZ : ∀ w, (zeroValue 44).run Tryz.prog w = .ok (.agg (inC inZ)) w := fun w => by kernel_rfl
  rw [HD.out]
  go_enter Tryz.func36, Tryz.ntmps36
  go_wp2_with (first | (go_at_call 49; ((with_reducible refine (HOp.out _ (HT.out.below ?_)).mono ?_); rotate_left; rintro e w' ⟨rfl, m, rfl⟩)) | (go_at_call 51; ((with_reducible refine (HSh.out _ (HT.out.below ?_)).mono ?_); rotate_left; rintro e w' ⟨rfl, rfl⟩)) | (go_at_call 50; ((with_reducible refine (HN0_5.out _).mono ?_); rintro e w' ⟨rfl, m, rfl⟩)) | (go_at_call 50; ((with_reducible refine (HN5_5.out _).mono ?_); rintro e w' ⟨rfl, m, rfl⟩)) | (go_at_call 50; ((with_reducible refine (HN16_5.out _).mono ?_); rintro e w' ⟨rfl, m, rfl⟩)) | (go_at_call 50; ((with_reducible refine (HN22_2.out _).mono ?_); rintro e w' ⟨rfl, m, rfl⟩)) | (go_at_call 50; ((with_reducible refine (HN10_6.out _).mono ?_); rintro e w' ⟨rfl, m, rfl⟩)))
  refine bodyPost_ret (v := inV _) (by simp [results, Tryz.results36, go_sem]) rfl ⟨rfl, ?_⟩
  all_goals
    repeat' (first | (with_reducible exact Below.refl _ _) | (with_reducible exact Nat.le_refl _) | (with_reducible exact Nat.le_succ _) | (with_reducible refine below_drewN ?_ _) | (with_reducible refine bel_set ?_ ?_) | (with_reducible refine bel_alloc ?_ _))

set_option maxRecDepth 100000 in
set_option maxHeartbeats 4000000 in
theorem winst5 (x : Nat) (hx : x < 4294967296) (w : World) (hw : Tab6 w) (hs : shapeI (opW x : Nat) = 5) : Calls Tryz.prog 36 #[.int .u32 x] w (RetB (inV (decW (opW x : Nat) 5 x)) w) := by
  have HT := Lib.hid hw
  have HOp : Hid (∀ w, Tab6 w → Calls Tryz.prog 49 #[.int .u32 x] w (RetD (.int .i64 (opW x : Nat)) w)) := Lib.hid fun w h => Opcode_any x hx w h
  have HSh : Hid (∀ w, Tab6 w → Calls Tryz.prog 51 #[.int .i64 (opW x : Nat)] w (Ret (.int .i64 5) w)) := Lib.hid fun w h => by have := Shape_any (opW x : Nat) w h.1; rwa [hs] at this
  have HN0_5 : Hid (∀ w, Calls Tryz.prog 50 #[.int .u32 x, .int .i64 0, .int .i64 5] w (RetD (.int .i64 (fw x 0 5)) w)) := Lib.hid fun w => number_any x 0 5 hx (by decide) (by decide) w
  have hb0_5 := fw_lt x 0 5
  have HN5_5 : Hid (∀ w, Calls Tryz.prog 50 #[.int .u32 x, .int .i64 5, .int .i64 5] w (RetD (.int .i64 (fw x 5 5)) w)) := Lib.hid fun w => number_any x 5 5 hx (by decide) (by decide) w
  have hb5_5 := fw_lt x 5 5
  have HN16_5 : Hid (∀ w, Calls Tryz.prog 50 #[.int .u32 x, .int .i64 16, .int .i64 5] w (RetD (.int .i64 (fw x 16 5)) w)) := Lib.hid fun w => number_any x 16 5 hx (by decide) (by decide) w
  have hb16_5 := fw_lt x 16 5
  have HN22_2 : Hid (∀ w, Calls Tryz.prog 50 #[.int .u32 x, .int .i64 22, .int .i64 2] w (RetD (.int .i64 (fw x 22 2)) w)) := Lib.hid fun w => number_any x 22 2 hx (by decide) (by decide) w
  have hb22_2 := fw_lt x 22 2
  have HN10_6 : Hid (∀ w, Calls Tryz.prog 50 #[.int .u32 x, .int .i64 10, .int .i64 6] w (RetD (.int .i64 (fw x 10 6)) w)) := Lib.hid fun w => number_any x 10 6 hx (by decide) (by decide) w
  have hb10_6 := fw_lt x 10 6
  have HD : Hid (decW (opW x : Nat) 5 x = ⟨(opW x : Nat), (fw x 0 5), (fw x 5 5), (fw x 16 5), 0, 0, 0, (fw x 22 2), (fw x 10 6), 0⟩) := Lib.hid rfl
  generalize fw x 0 5 = f0_5 at *
  generalize fw x 5 5 = f5_5 at *
  generalize fw x 16 5 = f16_5 at *
  generalize fw x 22 2 = f22_2 at *
  generalize fw x 10 6 = f10_6 at *
  simp only [Int.reducePow] at hb0_5 hb5_5 hb16_5 hb22_2 hb10_6
  generalize opW x = op at *
  clear hw hs
  have hZ : ∀ w, (zeroValue 44).run Tryz.prog w = .ok (.agg (inC inZ)) w := fun w => by kernel_rfl
  rw [HD.out]
  go_enter Tryz.func36, Tryz.ntmps36
  go_wp2_with (first | (go_at_call 49; ((with_reducible refine (HOp.out _ (HT.out.below ?_)).mono ?_); rotate_left; rintro e w' ⟨rfl, m, rfl⟩)) | (go_at_call 51; ((with_reducible refine (HSh.out _ (HT.out.below ?_)).mono ?_); rotate_left; rintro e w' ⟨rfl, rfl⟩)) | (go_at_call 50; ((with_reducible refine (HN0_5.out _).mono ?_); rintro e w' ⟨rfl, m, rfl⟩)) | (go_at_call 50; ((with_reducible refine (HN5_5.out _).mono ?_); rintro e w' ⟨rfl, m, rfl⟩)) | (go_at_call 50; ((with_reducible refine (HN16_5.out _).mono ?_); rintro e w' ⟨rfl, m, rfl⟩)) | (go_at_call 50; ((with_reducible refine (HN22_2.out _).mono ?_); rintro e w' ⟨rfl, m, rfl⟩)) | (go_at_call 50; ((with_reducible refine (HN10_6.out _).mono ?_); rintro e w' ⟨rfl, m, rfl⟩)))
  refine bodyPost_ret (v := inV _) (by simp [results, Tryz.results36, go_sem]) rfl ⟨rfl, ?_⟩
  all_goals
    repeat' (first | (with_reducible exact Below.refl _ _) | (with_reducible exact Nat.le_refl _) | (with_reducible exact Nat.le_succ _) | (with_reducible refine below_drewN ?_ _) | (with_reducible refine bel_set ?_ ?_) | (with_reducible refine bel_alloc ?_ _))

set_option maxRecDepth 100000 in
set_option maxHeartbeats 4000000 in
theorem winst6 (x : Nat) (hx : x < 4294967296) (w : World) (hw : Tab6 w) (hs : shapeI (opW x : Nat) = 6) : Calls Tryz.prog 36 #[.int .u32 x] w (RetB (inV (decW (opW x : Nat) 6 x)) w) := by
  have HT := Lib.hid hw
  have HOp : Hid (∀ w, Tab6 w → Calls Tryz.prog 49 #[.int .u32 x] w (RetD (.int .i64 (opW x : Nat)) w)) := Lib.hid fun w h => Opcode_any x hx w h
  have HSh : Hid (∀ w, Tab6 w → Calls Tryz.prog 51 #[.int .i64 (opW x : Nat)] w (Ret (.int .i64 6) w)) := Lib.hid fun w h => by have := Shape_any (opW x : Nat) w h.1; rwa [hs] at this
  have HN0_5 : Hid (∀ w, Calls Tryz.prog 50 #[.int .u32 x, .int .i64 0, .int .i64 5] w (RetD (.int .i64 (fw x 0 5)) w)) := Lib.hid fun w => number_any x 0 5 hx (by decide) (by decide) w
  have hb0_5 := fw_lt x 0 5
  have HN5_5 : Hid (∀ w, Calls Tryz.prog 50 #[.int .u32 x, .int .i64 5, .int .i64 5] w (RetD (.int .i64 (fw x 5 5)) w)) := Lib.hid fun w => number_any x 5 5 hx (by decide) (by decide) w
  have hb5_5 := fw_lt x 5 5
  have HN16_5 : Hid (∀ w, Calls Tryz.prog 50 #[.int .u32 x, .int .i64 16, .int .i64 5] w (RetD (.int .i64 (fw x 16 5)) w)) := Lib.hid fun w => number_any x 16 5 hx (by decide) (by decide) w
  have hb16_5 := fw_lt x 16 5
  have HN10_5 : Hid (∀ w, Calls Tryz.prog 50 #[.int .u32 x, .int .i64 10, .int .i64 5] w (RetD (.int .i64 (fw x 10 5)) w)) := Lib.hid fun w => number_any x 10 5 hx (by decide) (by decide) w
  have hb10_5 := fw_lt x 10 5
  have HD : Hid (decW (opW x : Nat) 6 x = ⟨(opW x : Nat), (fw x 0 5), (fw x 5 5), (fw x 16 5), (fw x 10 5), 0, 0, 0, 0, 0⟩) := Lib.hid rfl
  generalize fw x 0 5 = f0_5 at *
  generalize fw x 5 5 = f5_5 at *
  generalize fw x 16 5 = f16_5 at *
  generalize fw x 10 5 = f10_5 at *
  simp only [Int.reducePow] at hb0_5 hb5_5 hb16_5 hb10_5
  generalize opW x = op at *
  clear hw hs
  have hZ : ∀ w, (zeroValue 44).run Tryz.prog w = .ok (.agg (inC inZ)) w := fun w => by kernel_rfl
  rw [HD.out]
  go_enter Tryz.func36, Tryz.ntmps36
  go_wp2_with (first | (go_at_call 49; ((with_reducible refine (HOp.out _ (HT.out.below ?_)).mono ?_); rotate_left; rintro e w' ⟨rfl, m, rfl⟩)) | (go_at_call 51; ((with_reducible refine (HSh.out _ (HT.out.below ?_)).mono ?_); rotate_left; rintro e w' ⟨rfl, rfl⟩)) | (go_at_call 50; ((with_reducible refine (HN0_5.out _).mono ?_); rintro e w' ⟨rfl, m, rfl⟩)) | (go_at_call 50; ((with_reducible refine (HN5_5.out _).mono ?_); rintro e w' ⟨rfl, m, rfl⟩)) | (go_at_call 50; ((with_reducible refine (HN16_5.out _).mono ?_); rintro e w' ⟨rfl, m, rfl⟩)) | (go_at_call 50; ((with_reducible refine (HN10_5.out _).mono ?_); rintro e w' ⟨rfl, m, rfl⟩)))
  refine bodyPost_ret (v := inV _) (by simp [results, Tryz.results36, go_sem]) rfl ⟨rfl, ?_⟩
  all_goals
    repeat' (first | (with_reducible exact Below.refl _ _) | (with_reducible exact Nat.le_refl _) | (with_reducible exact Nat.le_succ _) | (with_reducible refine below_drewN ?_ _) | (with_reducible refine bel_set ?_ ?_) | (with_reducible refine bel_alloc ?_ _))

set_option maxRecDepth 100000 in
set_option maxHeartbeats 4000000 in
theorem winst7 (x : Nat) (hx : x < 4294967296) (w : World) (hw : Tab6 w) (hs : shapeI (opW x : Nat) = 7) : Calls Tryz.prog 36 #[.int .u32 x] w (RetB (inV (decW (opW x : Nat) 7 x)) w) := by
  have HT := Lib.hid hw
  have HOp : Hid (∀ w, Tab6 w → Calls Tryz.prog 49 #[.int .u32 x] w (RetD (.int .i64 (opW x : Nat)) w)) := Lib.hid fun w h => Opcode_any x hx w h
  have HSh : Hid (∀ w, Tab6 w → Calls Tryz.prog 51 #[.int .i64 (opW x : Nat)] w (Ret (.int .i64 7) w)) := Lib.hid fun w h => by have := Shape_any (opW x : Nat) w h.1; rwa [hs] at this
  have HN0_5 : Hid (∀ w, Calls Tryz.prog 50 #[.int .u32 x, .int .i64 0, .int .i64 5] w (RetD (.int .i64 (fw x 0 5)) w)) := Lib.hid fun w => number_any x 0 5 hx (by decide) (by decide) w
  have hb0_5 := fw_lt x 0 5
  have HN5_5 : Hid (∀ w, Calls Tryz.prog 50 #[.int .u32 x, .int .i64 5, .int .i64 5] w (RetD (.int .i64 (fw x 5 5)) w)) := Lib.hid fun w => number_any x 5 5 hx (by decide) (by decide) w
  have hb5_5 := fw_lt x 5 5
  have HN16_5 : Hid (∀ w, Calls Tryz.prog 50 #[.int .u32 x, .int .i64 16, .int .i64 5] w (RetD (.int .i64 (fw x 16 5)) w)) := Lib.hid fun w => number_any x 16 5 hx (by decide) (by decide) w
  have hb16_5 := fw_lt x 16 5
  have HN10_12 : Hid (∀ w, Calls Tryz.prog 50 #[.int .u32 x, .int .i64 10, .int .i64 12] w (RetD (.int .i64 (fw x 10 12)) w)) := Lib.hid fun w => number_any x 10 12 hx (by decide) (by decide) w
  have hb10_12 := fw_lt x 10 12
  have HD : Hid (decW (opW x : Nat) 7 x = ⟨(opW x : Nat), (fw x 0 5), (fw x 5 5), 0, 0, (8 * (fw x 10 12)), 0, 0, 0, 0⟩) := Lib.hid rfl
  generalize fw x 0 5 = f0_5 at *
  generalize fw x 5 5 = f5_5 at *
  generalize fw x 16 5 = f16_5 at *
  generalize fw x 10 12 = f10_12 at *
  simp only [Int.reducePow] at hb0_5 hb5_5 hb16_5 hb10_12
  generalize opW x = op at *
  clear hw hs
  have hZ : ∀ w, (zeroValue 44).run Tryz.prog w = .ok (.agg (inC inZ)) w := fun w => by kernel_rfl
  rw [HD.out]
  go_enter Tryz.func36, Tryz.ntmps36
  go_wp2_with (first | (go_at_call 49; ((with_reducible refine (HOp.out _ (HT.out.below ?_)).mono ?_); rotate_left; rintro e w' ⟨rfl, m, rfl⟩)) | (go_at_call 51; ((with_reducible refine (HSh.out _ (HT.out.below ?_)).mono ?_); rotate_left; rintro e w' ⟨rfl, rfl⟩)) | (go_at_call 50; ((with_reducible refine (HN0_5.out _).mono ?_); rintro e w' ⟨rfl, m, rfl⟩)) | (go_at_call 50; ((with_reducible refine (HN5_5.out _).mono ?_); rintro e w' ⟨rfl, m, rfl⟩)) | (go_at_call 50; ((with_reducible refine (HN16_5.out _).mono ?_); rintro e w' ⟨rfl, m, rfl⟩)) | (go_at_call 50; ((with_reducible refine (HN10_12.out _).mono ?_); rintro e w' ⟨rfl, m, rfl⟩)))
  refine bodyPost_ret (v := inV _) (by simp [results, Tryz.results36, go_sem]) rfl ⟨rfl, ?_⟩
  all_goals
    repeat' (first | (with_reducible exact Below.refl _ _) | (with_reducible exact Nat.le_refl _) | (with_reducible exact Nat.le_succ _) | (with_reducible refine below_drewN ?_ _) | (with_reducible refine bel_set ?_ ?_) | (with_reducible refine bel_alloc ?_ _))

set_option maxRecDepth 100000 in
set_option maxHeartbeats 4000000 in
theorem winst8 (x : Nat) (hx : x < 4294967296) (w : World) (hw : Tab6 w) (hs : shapeI (opW x : Nat) = 8) : Calls Tryz.prog 36 #[.int .u32 x] w (RetB (inV (decW (opW x : Nat) 8 x)) w) := by
  have HT := Lib.hid hw
  have HOp : Hid (∀ w, Tab6 w → Calls Tryz.prog 49 #[.int .u32 x] w (RetD (.int .i64 (opW x : Nat)) w)) := Lib.hid fun w h => Opcode_any x hx w h
  have HSh : Hid (∀ w, Tab6 w → Calls Tryz.prog 51 #[.int .i64 (opW x : Nat)] w (Ret (.int .i64 8) w)) := Lib.hid fun w h => by have := Shape_any (opW x : Nat) w h.1; rwa [hs] at this
  have HN0_5 : Hid (∀ w, Calls Tryz.prog 50 #[.int .u32 x, .int .i64 0, .int .i64 5] w (RetD (.int .i64 (fw x 0 5)) w)) := Lib.hid fun w => number_any x 0 5 hx (by decide) (by decide) w
  have hb0_5 := fw_lt x 0 5
  have HN5_5 : Hid (∀ w, Calls Tryz.prog 50 #[.int .u32 x, .int .i64 5, .int .i64 5] w (RetD (.int .i64 (fw x 5 5)) w)) := Lib.hid fun w => number_any x 5 5 hx (by decide) (by decide) w
  have hb5_5 := fw_lt x 5 5
  have HN16_5 : Hid (∀ w, Calls Tryz.prog 50 #[.int .u32 x, .int .i64 16, .int .i64 5] w (RetD (.int .i64 (fw x 16 5)) w)) := Lib.hid fun w => number_any x 16 5 hx (by decide) (by decide) w
  have hb16_5 := fw_lt x 16 5
  have HN10_12 : Hid (∀ w, Calls Tryz.prog 50 #[.int .u32 x, .int .i64 10, .int .i64 12] w (RetD (.int .i64 (fw x 10 12)) w)) := Lib.hid fun w => number_any x 10 12 hx (by decide) (by decide) w
  have hb10_12 := fw_lt x 10 12
  have HD : Hid (decW (opW x : Nat) 8 x = ⟨(opW x : Nat), (fw x 0 5), (fw x 5 5), 0, 0, (fw x 10 12), 0, 0, 0, 0⟩) := Lib.hid rfl
  generalize fw x 0 5 = f0_5 at *
  generalize fw x 5 5 = f5_5 at *
  generalize fw x 16 5 = f16_5 at *
  generalize fw x 10 12 = f10_12 at *
  simp only [Int.reducePow] at hb0_5 hb5_5 hb16_5 hb10_12
  generalize opW x = op at *
  clear hw hs
  have hZ : ∀ w, (zeroValue 44).run Tryz.prog w = .ok (.agg (inC inZ)) w := fun w => by kernel_rfl
  rw [HD.out]
  go_enter Tryz.func36, Tryz.ntmps36
  go_wp2_with (first | (go_at_call 49; ((with_reducible refine (HOp.out _ (HT.out.below ?_)).mono ?_); rotate_left; rintro e w' ⟨rfl, m, rfl⟩)) | (go_at_call 51; ((with_reducible refine (HSh.out _ (HT.out.below ?_)).mono ?_); rotate_left; rintro e w' ⟨rfl, rfl⟩)) | (go_at_call 50; ((with_reducible refine (HN0_5.out _).mono ?_); rintro e w' ⟨rfl, m, rfl⟩)) | (go_at_call 50; ((with_reducible refine (HN5_5.out _).mono ?_); rintro e w' ⟨rfl, m, rfl⟩)) | (go_at_call 50; ((with_reducible refine (HN16_5.out _).mono ?_); rintro e w' ⟨rfl, m, rfl⟩)) | (go_at_call 50; ((with_reducible refine (HN10_12.out _).mono ?_); rintro e w' ⟨rfl, m, rfl⟩)))
  refine bodyPost_ret (v := inV _) (by simp [results, Tryz.results36, go_sem]) rfl ⟨rfl, ?_⟩
  all_goals
    repeat' (first | (with_reducible exact Below.refl _ _) | (with_reducible exact Nat.le_refl _) | (with_reducible exact Nat.le_succ _) | (with_reducible refine below_drewN ?_ _) | (with_reducible refine bel_set ?_ ?_) | (with_reducible refine bel_alloc ?_ _))

set_option maxRecDepth 100000 in
set_option maxHeartbeats 4000000 in
theorem winst9 (x : Nat) (hx : x < 4294967296) (w : World) (hw : Tab6 w) (hs : shapeI (opW x : Nat) = 9) : Calls Tryz.prog 36 #[.int .u32 x] w (RetB (inV (decW (opW x : Nat) 9 x)) w) := by
  have HT := Lib.hid hw
  have HOp : Hid (∀ w, Tab6 w → Calls Tryz.prog 49 #[.int .u32 x] w (RetD (.int .i64 (opW x : Nat)) w)) := Lib.hid fun w h => Opcode_any x hx w h
  have HSh : Hid (∀ w, Tab6 w → Calls Tryz.prog 51 #[.int .i64 (opW x : Nat)] w (Ret (.int .i64 9) w)) := Lib.hid fun w h => by have := Shape_any (opW x : Nat) w h.1; rwa [hs] at this
  have HN0_5 : Hid (∀ w, Calls Tryz.prog 50 #[.int .u32 x, .int .i64 0, .int .i64 5] w (RetD (.int .i64 (fw x 0 5)) w)) := Lib.hid fun w => number_any x 0 5 hx (by decide) (by decide) w
  have hb0_5 := fw_lt x 0 5
  have HN5_5 : Hid (∀ w, Calls Tryz.prog 50 #[.int .u32 x, .int .i64 5, .int .i64 5] w (RetD (.int .i64 (fw x 5 5)) w)) := Lib.hid fun w => number_any x 5 5 hx (by decide) (by decide) w
  have hb5_5 := fw_lt x 5 5
  have HN16_5 : Hid (∀ w, Calls Tryz.prog 50 #[.int .u32 x, .int .i64 16, .int .i64 5] w (RetD (.int .i64 (fw x 16 5)) w)) := Lib.hid fun w => number_any x 16 5 hx (by decide) (by decide) w
  have hb16_5 := fw_lt x 16 5
  have HS : Hid (∀ w, Calls Tryz.prog 53 #[.int .u32 x, .int .i64 5, .int .i64 19] w (RetD (.int .i64 (sgn (fw x 5 19) 19).1) w)) := Lib.hid fun w => wsigned_any x 5 19 hx (by decide) (by decide) w
  have hsb := sgn19 (v := fw x 5 19) (by have := fw_lt x 5 19; simpa using this)
  have HD : Hid (decW (opW x : Nat) 9 x = ⟨(opW x : Nat), (fw x 0 5), 0, 0, 0, (4 * (sgn (fw x 5 19) 19).1), 0, 0, 0, 0⟩) := Lib.hid rfl
  generalize (sgn (fw x 5 19) 19).1 = sg at *
  generalize fw x 0 5 = f0_5 at *
  generalize fw x 5 5 = f5_5 at *
  generalize fw x 16 5 = f16_5 at *
  simp only [Int.reducePow] at hb0_5 hb5_5 hb16_5
  generalize opW x = op at *
  clear hw hs
  have hZ : ∀ w, (zeroValue 44).run Tryz.prog w = .ok (.agg (inC inZ)) w := fun w => by kernel_rfl
  rw [HD.out]
  go_enter Tryz.func36, Tryz.ntmps36
  go_wp2_with (first | (go_at_call 49; ((with_reducible refine (HOp.out _ (HT.out.below ?_)).mono ?_); rotate_left; rintro e w' ⟨rfl, m, rfl⟩)) | (go_at_call 51; ((with_reducible refine (HSh.out _ (HT.out.below ?_)).mono ?_); rotate_left; rintro e w' ⟨rfl, rfl⟩)) | (go_at_call 50; ((with_reducible refine (HN0_5.out _).mono ?_); rintro e w' ⟨rfl, m, rfl⟩)) | (go_at_call 50; ((with_reducible refine (HN5_5.out _).mono ?_); rintro e w' ⟨rfl, m, rfl⟩)) | (go_at_call 50; ((with_reducible refine (HN16_5.out _).mono ?_); rintro e w' ⟨rfl, m, rfl⟩)) | (go_at_call 53; ((with_reducible refine (HS.out _).mono ?_); rintro e w' ⟨rfl, m, rfl⟩)))
  refine bodyPost_ret (v := inV _) (by simp [results, Tryz.results36, go_sem]) rfl ⟨rfl, ?_⟩
  all_goals
    repeat' (first | (with_reducible exact Below.refl _ _) | (with_reducible exact Nat.le_refl _) | (with_reducible exact Nat.le_succ _) | (with_reducible refine below_drewN ?_ _) | (with_reducible refine bel_set ?_ ?_) | (with_reducible refine bel_alloc ?_ _))

set_option maxRecDepth 100000 in
set_option maxHeartbeats 4000000 in
theorem winst10 (x : Nat) (hx : x < 4294967296) (w : World) (hw : Tab6 w) (hs : shapeI (opW x : Nat) = 10) : Calls Tryz.prog 36 #[.int .u32 x] w (RetB (inV (decW (opW x : Nat) 10 x)) w) := by
  have HT := Lib.hid hw
  have HOp : Hid (∀ w, Tab6 w → Calls Tryz.prog 49 #[.int .u32 x] w (RetD (.int .i64 (opW x : Nat)) w)) := Lib.hid fun w h => Opcode_any x hx w h
  have HSh : Hid (∀ w, Tab6 w → Calls Tryz.prog 51 #[.int .i64 (opW x : Nat)] w (Ret (.int .i64 10) w)) := Lib.hid fun w h => by have := Shape_any (opW x : Nat) w h.1; rwa [hs] at this
  have HN0_5 : Hid (∀ w, Calls Tryz.prog 50 #[.int .u32 x, .int .i64 0, .int .i64 5] w (RetD (.int .i64 (fw x 0 5)) w)) := Lib.hid fun w => number_any x 0 5 hx (by decide) (by decide) w
  have hb0_5 := fw_lt x 0 5
  have HN5_5 : Hid (∀ w, Calls Tryz.prog 50 #[.int .u32 x, .int .i64 5, .int .i64 5] w (RetD (.int .i64 (fw x 5 5)) w)) := Lib.hid fun w => number_any x 5 5 hx (by decide) (by decide) w
  have hb5_5 := fw_lt x 5 5
  have HN16_5 : Hid (∀ w, Calls Tryz.prog 50 #[.int .u32 x, .int .i64 16, .int .i64 5] w (RetD (.int .i64 (fw x 16 5)) w)) := Lib.hid fun w => number_any x 16 5 hx (by decide) (by decide) w
  have hb16_5 := fw_lt x 16 5
  have HN29_2 : Hid (∀ w, Calls Tryz.prog 50 #[.int .u32 x, .int .i64 29, .int .i64 2] w (RetD (.int .i64 (fw x 29 2)) w)) := Lib.hid fun w => number_any x 29 2 hx (by decide) (by decide) w
  have hb29_2 := fw_lt x 29 2
  have HS : Hid (∀ w, Calls Tryz.prog 53 #[.int .u32 x, .int .i64 5, .int .i64 19] w (RetD (.int .i64 (sgn (fw x 5 19) 19).1) w)) := Lib.hid fun w => wsigned_any x 5 19 hx (by decide) (by decide) w
  have hsb := sgn19 (v := fw x 5 19) (by have := fw_lt x 5 19; simpa using this)
  have HD : Hid (decW (opW x : Nat) 10 x = ⟨(opW x : Nat), (fw x 0 5), 0, 0, 0, (4 * (sgn (fw x 5 19) 19).1 + (fw x 29 2)), 0, 0, 0, 0⟩) := Lib.hid rfl
  generalize (sgn (fw x 5 19) 19).1 = sg at *
  generalize fw x 0 5 = f0_5 at *
  generalize fw x 5 5 = f5_5 at *
  generalize fw x 16 5 = f16_5 at *
  generalize fw x 29 2 = f29_2 at *
  simp only [Int.reducePow] at hb0_5 hb5_5 hb16_5 hb29_2
  generalize opW x = op at *
  clear hw hs
  have hZ : ∀ w, (zeroValue 44).run Tryz.prog w = .ok (.agg (inC inZ)) w := fun w => by kernel_rfl
  rw [HD.out]
  go_enter Tryz.func36, Tryz.ntmps36
  go_wp2_with (first | (go_at_call 49; ((with_reducible refine (HOp.out _ (HT.out.below ?_)).mono ?_); rotate_left; rintro e w' ⟨rfl, m, rfl⟩)) | (go_at_call 51; ((with_reducible refine (HSh.out _ (HT.out.below ?_)).mono ?_); rotate_left; rintro e w' ⟨rfl, rfl⟩)) | (go_at_call 50; ((with_reducible refine (HN0_5.out _).mono ?_); rintro e w' ⟨rfl, m, rfl⟩)) | (go_at_call 50; ((with_reducible refine (HN5_5.out _).mono ?_); rintro e w' ⟨rfl, m, rfl⟩)) | (go_at_call 50; ((with_reducible refine (HN16_5.out _).mono ?_); rintro e w' ⟨rfl, m, rfl⟩)) | (go_at_call 50; ((with_reducible refine (HN29_2.out _).mono ?_); rintro e w' ⟨rfl, m, rfl⟩)) | (go_at_call 53; ((with_reducible refine (HS.out _).mono ?_); rintro e w' ⟨rfl, m, rfl⟩)))
  refine bodyPost_ret (v := inV _) (by simp [results, Tryz.results36, go_sem]) rfl ⟨rfl, ?_⟩
  all_goals
    repeat' (first | (with_reducible exact Below.refl _ _) | (with_reducible exact Nat.le_refl _) | (with_reducible exact Nat.le_succ _) | (with_reducible refine below_drewN ?_ _) | (with_reducible refine bel_set ?_ ?_) | (with_reducible refine bel_alloc ?_ _))

set_option maxRecDepth 100000 in
set_option maxHeartbeats 4000000 in
theorem winst11 (x : Nat) (hx : x < 4294967296) (w : World) (hw : Tab6 w) (hs : shapeI (opW x : Nat) = 11) : Calls Tryz.prog 36 #[.int .u32 x] w (RetB (inV (decW (opW x : Nat) 11 x)) w) := by
  have HT := Lib.hid hw
  have HOp : Hid (∀ w, Tab6 w → Calls Tryz.prog 49 #[.int .u32 x] w (RetD (.int .i64 (opW x : Nat)) w)) := Lib.hid fun w h => Opcode_any x hx w h
  have HSh : Hid (∀ w, Tab6 w → Calls Tryz.prog 51 #[.int .i64 (opW x : Nat)] w (Ret (.int .i64 11) w)) := Lib.hid fun w h => by have := Shape_any (opW x : Nat) w h.1; rwa [hs] at this
  have HN0_5 : Hid (∀ w, Calls Tryz.prog 50 #[.int .u32 x, .int .i64 0, .int .i64 5] w (RetD (.int .i64 (fw x 0 5)) w)) := Lib.hid fun w => number_any x 0 5 hx (by decide) (by decide) w
  have hb0_5 := fw_lt x 0 5
  have HN5_5 : Hid (∀ w, Calls Tryz.prog 50 #[.int .u32 x, .int .i64 5, .int .i64 5] w (RetD (.int .i64 (fw x 5 5)) w)) := Lib.hid fun w => number_any x 5 5 hx (by decide) (by decide) w
  have hb5_5 := fw_lt x 5 5
  have HN16_5 : Hid (∀ w, Calls Tryz.prog 50 #[.int .u32 x, .int .i64 16, .int .i64 5] w (RetD (.int .i64 (fw x 16 5)) w)) := Lib.hid fun w => number_any x 16 5 hx (by decide) (by decide) w
  have hb16_5 := fw_lt x 16 5
  have HS : Hid (∀ w, Calls Tryz.prog 53 #[.int .u32 x, .int .i64 0, .int .i64 26] w (RetD (.int .i64 (sgn (fw x 0 26) 26).1) w)) := Lib.hid fun w => wsigned_any x 0 26 hx (by decide) (by decide) w
  have hsb := sgn26 (v := fw x 0 26) (by have := fw_lt x 0 26; simpa using this)
  have HD : Hid (decW (opW x : Nat) 11 x = ⟨(opW x : Nat), 0, 0, 0, 0, (4 * (sgn (fw x 0 26) 26).1), 0, 0, 0, 0⟩) := Lib.hid rfl
  generalize (sgn (fw x 0 26) 26).1 = sg at *
  generalize fw x 0 5 = f0_5 at *
  generalize fw x 5 5 = f5_5 at *
  generalize fw x 16 5 = f16_5 at *
  simp only [Int.reducePow] at hb0_5 hb5_5 hb16_5
  generalize opW x = op at *
  clear hw hs
  have hZ : ∀ w, (zeroValue 44).run Tryz.prog w = .ok (.agg (inC inZ)) w := fun w => by kernel_rfl
  rw [HD.out]
  go_enter Tryz.func36, Tryz.ntmps36
  go_wp2_with (first | (go_at_call 49; ((with_reducible refine (HOp.out _ (HT.out.below ?_)).mono ?_); rotate_left; rintro e w' ⟨rfl, m, rfl⟩)) | (go_at_call 51; ((with_reducible refine (HSh.out _ (HT.out.below ?_)).mono ?_); rotate_left; rintro e w' ⟨rfl, rfl⟩)) | (go_at_call 50; ((with_reducible refine (HN0_5.out _).mono ?_); rintro e w' ⟨rfl, m, rfl⟩)) | (go_at_call 50; ((with_reducible refine (HN5_5.out _).mono ?_); rintro e w' ⟨rfl, m, rfl⟩)) | (go_at_call 50; ((with_reducible refine (HN16_5.out _).mono ?_); rintro e w' ⟨rfl, m, rfl⟩)) | (go_at_call 53; ((with_reducible refine (HS.out _).mono ?_); rintro e w' ⟨rfl, m, rfl⟩)))
  refine bodyPost_ret (v := inV _) (by simp [results, Tryz.results36, go_sem]) rfl ⟨rfl, ?_⟩
  all_goals
    repeat' (first | (with_reducible exact Below.refl _ _) | (with_reducible exact Nat.le_refl _) | (with_reducible exact Nat.le_succ _) | (with_reducible refine below_drewN ?_ _) | (with_reducible refine bel_set ?_ ?_) | (with_reducible refine bel_alloc ?_ _))

set_option maxRecDepth 100000 in
set_option maxHeartbeats 4000000 in
theorem winst12 (x : Nat) (hx : x < 4294967296) (w : World) (hw : Tab6 w) (hs : shapeI (opW x : Nat) = 12) : Calls Tryz.prog 36 #[.int .u32 x] w (RetB (inV (decW (opW x : Nat) 12 x)) w) := by
  have HT := Lib.hid hw
  have HOp : Hid (∀ w, Tab6 w → Calls Tryz.prog 49 #[.int .u32 x] w (RetD (.int .i64 (opW x : Nat)) w)) := Lib.hid fun w h => Opcode_any x hx w h
  have HSh : Hid (∀ w, Tab6 w → Calls Tryz.prog 51 #[.int .i64 (opW x : Nat)] w (Ret (.int .i64 12) w)) := Lib.hid fun w h => by have := Shape_any (opW x : Nat) w h.1; rwa [hs] at this
  have HN0_5 : Hid (∀ w, Calls Tryz.prog 50 #[.int .u32 x, .int .i64 0, .int .i64 5] w (RetD (.int .i64 (fw x 0 5)) w)) := Lib.hid fun w => number_any x 0 5 hx (by decide) (by decide) w
  have hb0_5 := fw_lt x 0 5
  have HN5_5 : Hid (∀ w, Calls Tryz.prog 50 #[.int .u32 x, .int .i64 5, .int .i64 5] w (RetD (.int .i64 (fw x 5 5)) w)) := Lib.hid fun w => number_any x 5 5 hx (by decide) (by decide) w
  have hb5_5 := fw_lt x 5 5
  have HN16_5 : Hid (∀ w, Calls Tryz.prog 50 #[.int .u32 x, .int .i64 16, .int .i64 5] w (RetD (.int .i64 (fw x 16 5)) w)) := Lib.hid fun w => number_any x 16 5 hx (by decide) (by decide) w
  have hb16_5 := fw_lt x 16 5
  have HN0_4 : Hid (∀ w, Calls Tryz.prog 50 #[.int .u32 x, .int .i64 0, .int .i64 4] w (RetD (.int .i64 (fw x 0 4)) w)) := Lib.hid fun w => number_any x 0 4 hx (by decide) (by decide) w
  have hb0_4 := fw_lt x 0 4
  have HS : Hid (∀ w, Calls Tryz.prog 53 #[.int .u32 x, .int .i64 5, .int .i64 19] w (RetD (.int .i64 (sgn (fw x 5 19) 19).1) w)) := Lib.hid fun w => wsigned_any x 5 19 hx (by decide) (by decide) w
  have hsb := sgn19 (v := fw x 5 19) (by have := fw_lt x 5 19; simpa using this)
  have HD : Hid (decW (opW x : Nat) 12 x = ⟨(opW x : Nat), 0, 0, 0, 0, (4 * (sgn (fw x 5 19) 19).1), 0, 0, 0, (fw x 0 4)⟩) := Lib.hid rfl
  generalize (sgn (fw x 5 19) 19).1 = sg at *
  generalize fw x 0 5 = f0_5 at *
  generalize fw x 5 5 = f5_5 at *
  generalize fw x 16 5 = f16_5 at *
  generalize fw x 0 4 = f0_4 at *
  simp only [Int.reducePow] at hb0_5 hb5_5 hb16_5 hb0_4
  generalize opW x = op at *
  clear hw hs
  have hZ : ∀ w, (zeroValue 44).run Tryz.prog w = .ok (.agg (inC inZ)) w := fun w => by kernel_rfl
  rw [HD.out]
  go_enter Tryz.func36, Tryz.ntmps36
  go_wp2_with (first | (go_at_call 49; ((with_reducible refine (HOp.out _ (HT.out.below ?_)).mono ?_); rotate_left; rintro e w' ⟨rfl, m, rfl⟩)) | (go_at_call 51; ((with_reducible refine (HSh.out _ (HT.out.below ?_)).mono ?_); rotate_left; rintro e w' ⟨rfl, rfl⟩)) | (go_at_call 50; ((with_reducible refine (HN0_5.out _).mono ?_); rintro e w' ⟨rfl, m, rfl⟩)) | (go_at_call 50; ((with_reducible refine (HN5_5.out _).mono ?_); rintro e w' ⟨rfl, m, rfl⟩)) | (go_at_call 50; ((with_reducible refine (HN16_5.out _).mono ?_); rintro e w' ⟨rfl, m, rfl⟩)) | (go_at_call 50; ((with_reducible refine (HN0_4.out _).mono ?_); rintro e w' ⟨rfl, m, rfl⟩)) | (go_at_call 53; ((with_reducible refine (HS.out _).mono ?_); rintro e w' ⟨rfl, m, rfl⟩)))
  refine bodyPost_ret (v := inV _) (by simp [results, Tryz.results36, go_sem]) rfl ⟨rfl, ?_⟩
  all_goals
    repeat' (first | (with_reducible exact Below.refl _ _) | (with_reducible exact Nat.le_refl _) | (with_reducible exact Nat.le_succ _) | (with_reducible refine below_drewN ?_ _) | (with_reducible refine bel_set ?_ ?_) | (with_reducible refine bel_alloc ?_ _))

set_option maxRecDepth 100000 in
set_option maxHeartbeats 4000000 in
theorem winst13 (x : Nat) (hx : x < 4294967296) (w : World) (hw : Tab6 w) (hs : shapeI (opW x : Nat) = 13) : Calls Tryz.prog 36 #[.int .u32 x] w (RetB (inV (decW (opW x : Nat) 13 x)) w) := by
  have HT := Lib.hid hw
  have HOp : Hid (∀ w, Tab6 w → Calls Tryz.prog 49 #[.int .u32 x] w (RetD (.int .i64 (opW x : Nat)) w)) := Lib.hid fun w h => Opcode_any x hx w h
  have HSh : Hid (∀ w, Tab6 w → Calls Tryz.prog 51 #[.int .i64 (opW x : Nat)] w (Ret (.int .i64 13) w)) := Lib.hid fun w h => by have := Shape_any (opW x : Nat) w h.1; rwa [hs] at this
  have HN0_5 : Hid (∀ w, Calls Tryz.prog 50 #[.int .u32 x, .int .i64 0, .int .i64 5] w (RetD (.int .i64 (fw x 0 5)) w)) := Lib.hid fun w => number_any x 0 5 hx (by decide) (by decide) w
  have hb0_5 := fw_lt x 0 5
  have HN5_5 : Hid (∀ w, Calls Tryz.prog 50 #[.int .u32 x, .int .i64 5, .int .i64 5] w (RetD (.int .i64 (fw x 5 5)) w)) := Lib.hid fun w => number_any x 5 5 hx (by decide) (by decide) w
  have hb5_5 := fw_lt x 5 5
  have HN16_5 : Hid (∀ w, Calls Tryz.prog 50 #[.int .u32 x, .int .i64 16, .int .i64 5] w (RetD (.int .i64 (fw x 16 5)) w)) := Lib.hid fun w => number_any x 16 5 hx (by decide) (by decide) w
  have hb16_5 := fw_lt x 16 5
  have HD : Hid (decW (opW x : Nat) 13 x = ⟨(opW x : Nat), 0, (fw x 5 5), 0, 0, 0, 0, 0, 0, 0⟩) := Lib.hid rfl
  generalize fw x 0 5 = f0_5 at *
  generalize fw x 5 5 = f5_5 at *
  generalize fw x 16 5 = f16_5 at *
  simp only [Int.reducePow] at hb0_5 hb5_5 hb16_5
  generalize opW x = op at *
  clear hw hs
  have hZ : ∀ w, (zeroValue 44).run Tryz.prog w = .ok (.agg (inC inZ)) w := fun w => by kernel_rfl
  rw [HD.out]
  go_enter Tryz.func36, Tryz.ntmps36
  go_wp2_with (first | (go_at_call 49; ((with_reducible refine (HOp.out _ (HT.out.below ?_)).mono ?_); rotate_left; rintro e w' ⟨rfl, m, rfl⟩)) | (go_at_call 51; ((with_reducible refine (HSh.out _ (HT.out.below ?_)).mono ?_); rotate_left; rintro e w' ⟨rfl, rfl⟩)) | (go_at_call 50; ((with_reducible refine (HN0_5.out _).mono ?_); rintro e w' ⟨rfl, m, rfl⟩)) | (go_at_call 50; ((with_reducible refine (HN5_5.out _).mono ?_); rintro e w' ⟨rfl, m, rfl⟩)) | (go_at_call 50; ((with_reducible refine (HN16_5.out _).mono ?_); rintro e w' ⟨rfl, m, rfl⟩)))
  refine bodyPost_ret (v := inV _) (by simp [results, Tryz.results36, go_sem]) rfl ⟨rfl, ?_⟩
  all_goals
    repeat' (first | (with_reducible exact Below.refl _ _) | (with_reducible exact Nat.le_refl _) | (with_reducible exact Nat.le_succ _) | (with_reducible refine below_drewN ?_ _) | (with_reducible refine bel_set ?_ ?_) | (with_reducible refine bel_alloc ?_ _))

set_option maxRecDepth 100000 in
set_option maxHeartbeats 4000000 in
theorem winst14 (x : Nat) (hx : x < 4294967296) (w : World) (hw : Tab6 w) (hs : shapeI (opW x : Nat) = 14) : Calls Tryz.prog 36 #[.int .u32 x] w (RetB (inV (decW (opW x : Nat) 14 x)) w) := by
  have HT := Lib.hid hw
  have HOp : Hid (∀ w, Tab6 w → Calls Tryz.prog 49 #[.int .u32 x] w (RetD (.int .i64 (opW x : Nat)) w)) := Lib.hid fun w h => Opcode_any x hx w h
  have HSh : Hid (∀ w, Tab6 w → Calls Tryz.prog 51 #[.int .i64 (opW x : Nat)] w (Ret (.int .i64 14) w)) := Lib.hid fun w h => by have := Shape_any (opW x : Nat) w h.1; rwa [hs] at this
  have HN0_5 : Hid (∀ w, Calls Tryz.prog 50 #[.int .u32 x, .int .i64 0, .int .i64 5] w (RetD (.int .i64 (fw x 0 5)) w)) := Lib.hid fun w => number_any x 0 5 hx (by decide) (by decide) w
  have hb0_5 := fw_lt x 0 5
  have HN5_5 : Hid (∀ w, Calls Tryz.prog 50 #[.int .u32 x, .int .i64 5, .int .i64 5] w (RetD (.int .i64 (fw x 5 5)) w)) := Lib.hid fun w => number_any x 5 5 hx (by decide) (by decide) w
  have hb5_5 := fw_lt x 5 5
  have HN16_5 : Hid (∀ w, Calls Tryz.prog 50 #[.int .u32 x, .int .i64 16, .int .i64 5] w (RetD (.int .i64 (fw x 16 5)) w)) := Lib.hid fun w => number_any x 16 5 hx (by decide) (by decide) w
  have hb16_5 := fw_lt x 16 5
  have HN5_16 : Hid (∀ w, Calls Tryz.prog 50 #[.int .u32 x, .int .i64 5, .int .i64 16] w (RetD (.int .i64 (fw x 5 16)) w)) := Lib.hid fun w => number_any x 5 16 hx (by decide) (by decide) w
  have hb5_16 := fw_lt x 5 16
  have HD : Hid (decW (opW x : Nat) 14 x = ⟨(opW x : Nat), 0, 0, 0, 0, (fw x 5 16), 0, 0, 0, 0⟩) := Lib.hid rfl
  generalize fw x 0 5 = f0_5 at *
  generalize fw x 5 5 = f5_5 at *
  generalize fw x 16 5 = f16_5 at *
  generalize fw x 5 16 = f5_16 at *
  simp only [Int.reducePow] at hb0_5 hb5_5 hb16_5 hb5_16
  generalize opW x = op at *
  clear hw hs
  have hZ : ∀ w, (zeroValue 44).run Tryz.prog w = .ok (.agg (inC inZ)) w := fun w => by kernel_rfl
  rw [HD.out]
  go_enter Tryz.func36, Tryz.ntmps36
  go_wp2_with (first | (go_at_call 49; ((with_reducible refine (HOp.out _ (HT.out.below ?_)).mono ?_); rotate_left; rintro e w' ⟨rfl, m, rfl⟩)) | (go_at_call 51; ((with_reducible refine (HSh.out _ (HT.out.below ?_)).mono ?_); rotate_left; rintro e w' ⟨rfl, rfl⟩)) | (go_at_call 50; ((with_reducible refine (HN0_5.out _).mono ?_); rintro e w' ⟨rfl, m, rfl⟩)) | (go_at_call 50; ((with_reducible refine (HN5_5.out _).mono ?_); rintro e w' ⟨rfl, m, rfl⟩)) | (go_at_call 50; ((with_reducible refine (HN16_5.out _).mono ?_); rintro e w' ⟨rfl, m, rfl⟩)) | (go_at_call 50; ((with_reducible refine (HN5_16.out _).mono ?_); rintro e w' ⟨rfl, m, rfl⟩)))
  refine bodyPost_ret (v := inV _) (by simp [results, Tryz.results36, go_sem]) rfl ⟨rfl, ?_⟩
  all_goals
    repeat' (first | (with_reducible exact Below.refl _ _) | (with_reducible exact Nat.le_refl _) | (with_reducible exact Nat.le_succ _) | (with_reducible refine below_drewN ?_ _) | (with_reducible refine bel_set ?_ ?_) | (with_reducible refine bel_alloc ?_ _))

set_option maxRecDepth 100000 in
set_option maxHeartbeats 4000000 in
theorem winst15 (x : Nat) (hx : x < 4294967296) (w : World) (hw : Tab6 w) (hs : shapeI (opW x : Nat) = 15) : Calls Tryz.prog 36 #[.int .u32 x] w (RetB (inV (decW (opW x : Nat) 15 x)) w) := by
  have HT := Lib.hid hw
  have HOp : Hid (∀ w, Tab6 w → Calls Tryz.prog 49 #[.int .u32 x] w (RetD (.int .i64 (opW x : Nat)) w)) := Lib.hid fun w h => Opcode_any x hx w h
  have HSh : Hid (∀ w, Tab6 w → Calls Tryz.prog 51 #[.int .i64 (opW x : Nat)] w (Ret (.int .i64 15) w)) := Lib.hid fun w h => by have := Shape_any (opW x : Nat) w h.1; rwa [hs] at this
  have HN0_5 : Hid (∀ w, Calls Tryz.prog 50 #[.int .u32 x, .int .i64 0, .int .i64 5] w (RetD (.int .i64 (fw x 0 5)) w)) := Lib.hid fun w => number_any x 0 5 hx (by decide) (by decide) w
  have hb0_5 := fw_lt x 0 5
  have HN5_5 : Hid (∀ w, Calls Tryz.prog 50 #[.int .u32 x, .int .i64 5, .int .i64 5] w (RetD (.int .i64 (fw x 5 5)) w)) := Lib.hid fun w => number_any x 5 5 hx (by decide) (by decide) w
  have hb5_5 := fw_lt x 5 5
  have HN16_5 : Hid (∀ w, Calls Tryz.prog 50 #[.int .u32 x, .int .i64 16, .int .i64 5] w (RetD (.int .i64 (fw x 16 5)) w)) := Lib.hid fun w => number_any x 16 5 hx (by decide) (by decide) w
  have hb16_5 := fw_lt x 16 5
  have HD : Hid (decW (opW x : Nat) 15 x = ⟨(opW x : Nat), 0, 0, 0, 0, 0, 0, 0, 0, 0⟩) := Lib.hid rfl
  generalize fw x 0 5 = f0_5 at *
  generalize fw x 5 5 = f5_5 at *
  generalize fw x 16 5 = f16_5 at *
  simp only [Int.reducePow] at hb0_5 hb5_5 hb16_5
  generalize opW x = op at *
  clear hw hs
  have hZ : ∀ w, (zeroValue 44).run Tryz.prog w = .ok (.agg (inC inZ)) w := fun w => by kernel_rfl
  rw [HD.out]
  go_enter Tryz.func36, Tryz.ntmps36
  go_wp2_with (first | (go_at_call 49; ((with_reducible refine (HOp.out _ (HT.out.below ?_)).mono ?_); rotate_left; rintro e w' ⟨rfl, m, rfl⟩)) | (go_at_call 51; ((with_reducible refine (HSh.out _ (HT.out.below ?_)).mono ?_); rotate_left; rintro e w' ⟨rfl, rfl⟩)) | (go_at_call 50; ((with_reducible refine (HN0_5.out _).mono ?_); rintro e w' ⟨rfl, m, rfl⟩)) | (go_at_call 50; ((with_reducible refine (HN5_5.out _).mono ?_); rintro e w' ⟨rfl, m, rfl⟩)) | (go_at_call 50; ((with_reducible refine (HN16_5.out _).mono ?_); rintro e w' ⟨rfl, m, rfl⟩)))
  refine bodyPost_ret (v := inV _) (by simp [results, Tryz.results36, go_sem]) rfl ⟨rfl, ?_⟩
  all_goals
    repeat' (first | (with_reducible exact Below.refl _ _) | (with_reducible exact Nat.le_refl _) | (with_reducible exact Nat.le_succ _) | (with_reducible refine below_drewN ?_ _) | (with_reducible refine bel_set ?_ ?_) | (with_reducible refine bel_alloc ?_ _))

set_option maxRecDepth 100000 in
set_option maxHeartbeats 4000000 in
theorem winst16 (x : Nat) (hx : x < 4294967296) (w : World) (hw : Tab6 w) (hs : shapeI (opW x : Nat) = 16) : Calls Tryz.prog 36 #[.int .u32 x] w (RetB (inV (decW (opW x : Nat) 16 x)) w) := by
  have HT := Lib.hid hw
  have HOp : Hid (∀ w, Tab6 w → Calls Tryz.prog 49 #[.int .u32 x] w (RetD (.int .i64 (opW x : Nat)) w)) := Lib.hid fun w h => Opcode_any x hx w h
  have HSh : Hid (∀ w, Tab6 w → Calls Tryz.prog 51 #[.int .i64 (opW x : Nat)] w (Ret (.int .i64 16) w)) := Lib.hid fun w h => by have := Shape_any (opW x : Nat) w h.1; rwa [hs] at this
  have HN0_5 : Hid (∀ w, Calls Tryz.prog 50 #[.int .u32 x, .int .i64 0, .int .i64 5] w (RetD (.int .i64 (fw x 0 5)) w)) := Lib.hid fun w => number_any x 0 5 hx (by decide) (by decide) w
  have hb0_5 := fw_lt x 0 5
  have HN5_5 : Hid (∀ w, Calls Tryz.prog 50 #[.int .u32 x, .int .i64 5, .int .i64 5] w (RetD (.int .i64 (fw x 5 5)) w)) := Lib.hid fun w => number_any x 5 5 hx (by decide) (by decide) w
  have hb5_5 := fw_lt x 5 5
  have HN16_5 : Hid (∀ w, Calls Tryz.prog 50 #[.int .u32 x, .int .i64 16, .int .i64 5] w (RetD (.int .i64 (fw x 16 5)) w)) := Lib.hid fun w => number_any x 16 5 hx (by decide) (by decide) w
  have hb16_5 := fw_lt x 16 5
  have HN12_4 : Hid (∀ w, Calls Tryz.prog 50 #[.int .u32 x, .int .i64 12, .int .i64 4] w (RetD (.int .i64 (fw x 12 4)) w)) := Lib.hid fun w => number_any x 12 4 hx (by decide) (by decide) w
  have hb12_4 := fw_lt x 12 4
  have HD : Hid (decW (opW x : Nat) 16 x = ⟨(opW x : Nat), (fw x 0 5), (fw x 5 5), (fw x 16 5), 0, 0, 0, 0, 0, (fw x 12 4)⟩) := Lib.hid rfl
  generalize fw x 0 5 = f0_5 at *
  generalize fw x 5 5 = f5_5 at *
  generalize fw x 16 5 = f16_5 at *
  generalize fw x 12 4 = f12_4 at *
  simp only [Int.reducePow] at hb0_5 hb5_5 hb16_5 hb12_4
  generalize opW x = op at *
  clear hw hs
  have hZ : ∀ w, (zeroValue 44).run Tryz.prog w = .ok (.agg (inC inZ)) w := fun w => by kernel_rfl
  rw [HD.out]
  go_enter Tryz.func36, Tryz.ntmps36
  go_wp2_with (first | (go_at_call 49; ((with_reducible refine (HOp.out _ (HT.out.below ?_)).mono ?_); rotate_left; rintro e w' ⟨rfl, m, rfl⟩)) | (go_at_call 51; ((with_reducible refine (HSh.out _ (HT.out.below ?_)).mono ?_); rotate_left; rintro e w' ⟨rfl, rfl⟩)) | (go_at_call 50; ((with_reducible refine (HN0_5.out _).mono ?_); rintro e w' ⟨rfl, m, rfl⟩)) | (go_at_call 50; ((with_reducible refine (HN5_5.out _).mono ?_); rintro e w' ⟨rfl, m, rfl⟩)) | (go_at_call 50; ((with_reducible refine (HN16_5.out _).mono ?_); rintro e w' ⟨rfl, m, rfl⟩)) | (go_at_call 50; ((with_reducible refine (HN12_4.out _).mono ?_); rintro e w' ⟨rfl, m, rfl⟩)))
  refine bodyPost_ret (v := inV _) (by simp [results, Tryz.results36, go_sem]) rfl ⟨rfl, ?_⟩
  all_goals
    repeat' (first | (with_reducible exact Below.refl _ _) | (with_reducible exact Nat.le_refl _) | (with_reducible exact Nat.le_succ _) | (with_reducible refine below_drewN ?_ _) | (with_reducible refine bel_set ?_ ?_) | (with_reducible refine bel_alloc ?_ _))
end Go.Proofs.YtdeigbdcipkaaaaGreatDoor
