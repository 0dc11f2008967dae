/- code.fields, where a mask is told or a number is packed. -/
import Derived.Test.YtdeigbdcipkaaaaGreatDoorC8
import Derived.RegionTactic
namespace Go.Proofs.YtdeigbdcipkaaaaGreatDoor
set_option linter.unusedVariables false
set_option linter.unusedSimpArgs false
open Go.RowKit

theorem cell_new (w : World) (cs : Array Value) (T : TypeId) (j : Nat) : (w.alloc (.cells cs T)).cell? ⟨w.heap.size, j, none⟩ = cs[j]? := by
  have e := (MapKept.heap_alloc w (.cells cs T)).1
  unfold World.cell?
  rw [e]
  rfl
theorem keep2 {w w' : World} {A C D : Obj} {cs : Array Value} {T : TypeId} (hb : Below ((((w.alloc A).alloc (.cells cs T)).alloc C).alloc D).heap.size ((((w.alloc A).alloc (.cells cs T)).alloc C).alloc D) w') (j : Nat) : w'.cell? ⟨w.heap.size + 1, j, none⟩ = cs[j]? := by
  have h1 := cell_new (w.alloc A) cs T j
  rw [World.size_alloc] at h1
  have h2 : Below ((w.alloc A).alloc (.cells cs T)).heap.size ((w.alloc A).alloc (.cells cs T)) ((((w.alloc A).alloc (.cells cs T)).alloc C).alloc D) := ((Below.refl _ _).alloc (Nat.le_refl _) _).alloc (by simp) _
  rw [hb.cell (p := ⟨w.heap.size + 1, j, none⟩) (by simp only [World.size_alloc]; omega), h2.cell (p := ⟨w.heap.size + 1, j, none⟩) (by simp only [World.size_alloc]; omega)]
  exact h1
theorem keep3 {w w' : World} {A C D : Obj} {cs : Array Value} {T : TypeId} (hb : Below ((((w.alloc A).alloc C).alloc (.cells cs T)).alloc D).heap.size ((((w.alloc A).alloc C).alloc (.cells cs T)).alloc D) w') (j : Nat) : w'.cell? ⟨w.heap.size + 1 + 1, j, none⟩ = cs[j]? := by
  have h1 := cell_new ((w.alloc A).alloc C) cs T j
  rw [World.size_alloc, World.size_alloc] at h1
  have h2 : Below (((w.alloc A).alloc C).alloc (.cells cs T)).heap.size (((w.alloc A).alloc C).alloc (.cells cs T)) ((((w.alloc A).alloc C).alloc (.cells cs T)).alloc D) := (Below.refl _ _).alloc (Nat.le_refl _) _
  rw [hb.cell (p := ⟨w.heap.size + 1 + 1, j, none⟩) (by simp only [World.size_alloc]; omega), h2.cell (p := ⟨w.heap.size + 1 + 1, j, none⟩) (by simp only [World.size_alloc]; omega)]
  exact h1

set_option maxRecDepth 100000 in
set_option maxHeartbeats 4000000 in
theorem fields3 (o d n m a x k h t c : Int) (w : World) (hw : Tab6 w) (hs : shapeI o = 3) (hI : isI ⟨o, d, n, m, a, x, k, h, t, c⟩ = true) (hi : InB ⟨o, d, n, m, a, x, k, h, t, c⟩) :
    Calls Tryz.prog 39 #[inV ⟨o, d, n, m, a, x, k, h, t, c⟩] w (RetF (fldS 3 ⟨o, d, n, m, a, x, k, h, t, c⟩) w) := by
  have hf := facts3 hs hI
  have HWF := Lib.hid (wfF (enc3 hs hI hi.mask).1 (apartL_right _ _ (apart_t 3 _ (by omega)).1))
  have HSh : Hid (∀ w, Tab6 w → Calls Tryz.prog 51 #[.int .i64 o] w (Ret (.int .i64 3) w)) := Lib.hid fun w h => by have := Shape_any o w h.1; rwa [hs] at this
  have HT := Lib.hid hw
  have hk0 := hi.mask
  simp only [] at hk0
  obtain ⟨kn, rfl⟩ := Int.eq_ofNat_of_zero_le hk0.1
  obtain ⟨e1, e2, e3, he, r1, r2, r3, r4, r5, r6, -⟩ := enc_pat (k := kn) hf.2 (by omega)
  have HE := Lib.hid he
  have HEnc : Hid (∀ w, Tab w → Calls Tryz.prog 59 #[.int .u64 kn] w (RetB (.tuple #[.int .i64 e1, .int .i64 e2, .int .i64 e3, .int .i64 0]) w)) := Lib.hid fun w h => by
    have := Encode_any kn w (by omega) h
    rwa [he] at this
  clear hw hs hI hi he hk0
  go_enter Tryz.func39, Tryz.ntmps39
  go_wp2_with (first | (go_at_call 51; ((with_reducible refine (HSh.out _ (HT.out.below (bel4 _ _ _ _ _))).mono ?_); rintro e w' ⟨rfl, rfl⟩)) | (go_at_call 59; ((with_reducible refine (HEnc.out _ (HT.out.below (bel4 _ _ _ _ _)).1.1).mono ?_); rintro e w' ⟨rfl, hb⟩; have d0 := keep2 hb 0; have d1 := keep2 hb 1; have d2 := keep2 hb 2; have n0 := keep3 hb 0; have n1 := keep3 hb 1; have n2 := keep3 hb 2; simp only [List.getElem?_toArray, List.getElem?_cons_zero, List.getElem?_cons_succ] at d0 d1 d2 n0 n1 n2; replace hb := Lib.hid (after (bel4 _ _ _ _ _) hb))))
  go_ret
  refine ⟨some ⟨_, 0, none⟩, _, rfl, ?_, hb.out.alloc hb.out.size _⟩
  refine FS.lit _ _ _ HWF.out _ ?_ _ rfl
  simp [cellsF, fldS, HE.out]

set_option maxRecDepth 100000 in
set_option maxHeartbeats 4000000 in
theorem fields9 (o d n m a x k h t c : Int) (w : World) (hw : Tab6 w) (hs : shapeI o = 9) (hI : isI ⟨o, d, n, m, a, x, k, h, t, c⟩ = true) (hi : InB ⟨o, d, n, m, a, x, k, h, t, c⟩) :
    Calls Tryz.prog 39 #[inV ⟨o, d, n, m, a, x, k, h, t, c⟩] w (RetF (fldS 9 ⟨o, d, n, m, a, x, k, h, t, c⟩) w) := by
  have hf := facts9 hs hI
  have HWF := Lib.hid (wfF (enc9 hs hI).1 (apartL_right _ _ (apart_t 9 _ (by omega)).1))
  have HSh : Hid (∀ w, Tab6 w → Calls Tryz.prog 51 #[.int .i64 o] w (Ret (.int .i64 9) w)) := Lib.hid fun w h => by have := Shape_any o w h.1; rwa [hs] at this
  have HT := Lib.hid hw
  have hx := hi.imm
  simp only [i64B] at hx
  have hxb : -9223372036854775808 ≤ x.tdiv 4 ∧ x.tdiv 4 ≤ 9223372036854775807 := by
    obtain ⟨y, hy⟩ : ∃ y, x = 4 * y := Int.dvd_of_tmod_eq_zero (by simp only [hf])
    have := div_mul y 4 (by decide)
    rw [← hy] at this
    omega
  have HP : Hid (∀ w, Calls Tryz.prog 60 #[.int .i64 (x.tdiv 4), .int .i64 19] w (Ret (.int .u32 (pck (x.tdiv 4) 19).1) w)) := Lib.hid fun w => cpack_any _ _ w (by omega) (by omega)
  have hpb : 0 ≤ (pck (x.tdiv 4) 19).1 ∧ (pck (x.tdiv 4) 19).1 < 4294967296 := by
    have := HWF.out
    simp only [fldS, List.mem_cons, List.mem_nil_iff, or_false, forall_eq_or_imp, forall_eq] at this
    exact ⟨this.2.1, this.2.2.1⟩
  have HF : Hid (fldS 9 ⟨o, d, n, m, a, x, k, h, t, c⟩ = [(0, 5, d), (5, 19, (pck (x.tdiv 4) 19).1)]) := Lib.hid rfl
  generalize (pck (x.tdiv 4) 19).1 = p at *
  have hwr : IntKind.i64.wrap (x.tdiv 4) = x.tdiv 4 := by rw [IntKind.wrap_i64]; omega
  have HP2 : Hid (∀ w, Calls Tryz.prog 60 #[.int .i64 (IntKind.i64.wrap (x.tdiv 4)), .int .i64 19] w (Ret (.int .u32 p) w)) := Lib.hid fun w => by rw [hwr]; exact HP.out w
  clear hwr
  clear hw hs hI hi hx
  go_enter Tryz.func39, Tryz.ntmps39
  go_wp2_with (first | (go_at_call 51; ((with_reducible refine (HSh.out _ (HT.out.below (bel4 _ _ _ _ _))).mono ?_); rintro e w' ⟨rfl, rfl⟩)) | (go_at_call 60; ((with_reducible refine (HP.out _).mono ?_); rintro e w' ⟨rfl, rfl⟩)))
  first
  | (go_region_with (first | (go_at_call 60; ((with_reducible refine (HP2.out _).mono ?_); rintro e w' ⟨rfl, rfl⟩))))
  | fail
  all_goals
    go_wp2
    go_ret
    refine ⟨some ⟨_, 0, none⟩, _, rfl, ?_, ?_⟩
    rotate_left
    first
    | exact bel5 _ _ _ _ _ _
    | exact (bel5 _ _ _ _ _ _).drew
    first
    | refine FS.next (FS.lit _ _ _ HWF.out _ ?_ _ (siz4 _ _ _ _ _)) (Below.refl _ _).drew
    | refine FS.lit _ _ _ HWF.out _ ?_ _ (siz4 _ _ _ _ _)
    rw [HF.out]
    simp [cellsF]
    try (rw [IntKind.wrap_u32]; omega)

set_option maxRecDepth 100000 in
set_option maxHeartbeats 4000000 in
theorem fields10 (o d n m a x k h t c : Int) (w : World) (hw : Tab6 w) (hs : shapeI o = 10) (hI : isI ⟨o, d, n, m, a, x, k, h, t, c⟩ = true) (hi : InB ⟨o, d, n, m, a, x, k, h, t, c⟩) :
    Calls Tryz.prog 39 #[inV ⟨o, d, n, m, a, x, k, h, t, c⟩] w (RetF (fldS 10 ⟨o, d, n, m, a, x, k, h, t, c⟩) w) := by
  have hf := facts10 hs hI
  have HWF := Lib.hid (wfF (enc10 hs hI).1 (apartL_right _ _ (apart_t 10 _ (by omega)).1))
  have HSh : Hid (∀ w, Tab6 w → Calls Tryz.prog 51 #[.int .i64 o] w (Ret (.int .i64 10) w)) := Lib.hid fun w h => by have := Shape_any o w h.1; rwa [hs] at this
  have HT := Lib.hid hw
  have hx := hi.imm
  simp only [i64B] at hx
  skip
  have HP : Hid (∀ w, Calls Tryz.prog 60 #[.int .i64 x, .int .i64 21] w (Ret (.int .u32 (pck x 21).1) w)) := Lib.hid fun w => cpack_any _ _ w (by omega) (by omega)
  have hpb : 0 ≤ (pck x 21).1 ∧ (pck x 21).1 < 4294967296 := by
    have h3 := pck_lit (v := x) (n := 21) (by decide) (by decide) (by simp only [Nat.reduceSub, Int.reducePow]; omega) (by simp only [Nat.reduceSub, Int.reducePow]; omega)
    simp only [Int.reducePow, Int.cast_ofNat_Int] at h3
    omega
  have ha := and_ones32 (pck x 21).1 2 hpb.1 hpb.2 (by decide) (by decide)
  simp only [Int.reduceToNat, Int.reducePow, Int.reduceSub] at ha
  have HF : Hid (fldS 10 ⟨o, d, n, m, a, x, k, h, t, c⟩ = [(0, 5, d), (5, 19, ((pck x 21).1 / 4)), (29, 2, ((pck x 21).1 % 4))]) := Lib.hid rfl
  generalize (pck x 21).1 = p at *
  clear hw hs hI hi hx
  go_enter Tryz.func39, Tryz.ntmps39
  go_wp2_with (first | (go_at_call 51; ((with_reducible refine (HSh.out _ (HT.out.below (bel4 _ _ _ _ _))).mono ?_); rintro e w' ⟨rfl, rfl⟩)) | (go_at_call 60; ((with_reducible refine (HP.out _).mono ?_); rintro e w' ⟨rfl, rfl⟩)))
  go_ret
  refine ⟨some ⟨_, 0, none⟩, _, rfl, ?_, ?_⟩
  rotate_left
  first
  | exact bel5 _ _ _ _ _ _
  | exact (bel5 _ _ _ _ _ _).drew
  first
  | refine FS.next (FS.lit _ _ _ HWF.out _ ?_ _ (siz4 _ _ _ _ _)) (Below.refl _ _).drew
  | refine FS.lit _ _ _ HWF.out _ ?_ _ (siz4 _ _ _ _ _)
  rw [HF.out]
  simp [cellsF]
  try (rw [IntKind.wrap_u32]; omega)

set_option maxRecDepth 100000 in
set_option maxHeartbeats 4000000 in
theorem fields11 (o d n m a x k h t c : Int) (w : World) (hw : Tab6 w) (hs : shapeI o = 11) (hI : isI ⟨o, d, n, m, a, x, k, h, t, c⟩ = true) (hi : InB ⟨o, d, n, m, a, x, k, h, t, c⟩) :
    Calls Tryz.prog 39 #[inV ⟨o, d, n, m, a, x, k, h, t, c⟩] w (RetF (fldS 11 ⟨o, d, n, m, a, x, k, h, t, c⟩) w) := by
  have hf := facts11 hs hI
  have HWF := Lib.hid (wfF (enc11 hs hI).1 (apartL_right _ _ (apart_t 11 _ (by omega)).1))
  have HSh : Hid (∀ w, Tab6 w → Calls Tryz.prog 51 #[.int .i64 o] w (Ret (.int .i64 11) w)) := Lib.hid fun w h => by have := Shape_any o w h.1; rwa [hs] at this
  have HT := Lib.hid hw
  have hx := hi.imm
  simp only [i64B] at hx
  have hxb : -9223372036854775808 ≤ x.tdiv 4 ∧ x.tdiv 4 ≤ 9223372036854775807 := by
    obtain ⟨y, hy⟩ : ∃ y, x = 4 * y := Int.dvd_of_tmod_eq_zero (by simp only [hf])
    have := div_mul y 4 (by decide)
    rw [← hy] at this
    omega
  have HP : Hid (∀ w, Calls Tryz.prog 60 #[.int .i64 (x.tdiv 4), .int .i64 26] w (Ret (.int .u32 (pck (x.tdiv 4) 26).1) w)) := Lib.hid fun w => cpack_any _ _ w (by omega) (by omega)
  have hpb : 0 ≤ (pck (x.tdiv 4) 26).1 ∧ (pck (x.tdiv 4) 26).1 < 4294967296 := by
    have := HWF.out
    simp only [fldS, List.mem_cons, List.mem_nil_iff, or_false, forall_eq_or_imp, forall_eq] at this
    exact ⟨this.1, this.2.1⟩
  have HF : Hid (fldS 11 ⟨o, d, n, m, a, x, k, h, t, c⟩ = [(0, 26, (pck (x.tdiv 4) 26).1)]) := Lib.hid rfl
  generalize (pck (x.tdiv 4) 26).1 = p at *
  clear hw hs hI hi hx
  go_enter Tryz.func39, Tryz.ntmps39
  go_wp2_with (first | (go_at_call 51; ((with_reducible refine (HSh.out _ (HT.out.below (bel4 _ _ _ _ _))).mono ?_); rintro e w' ⟨rfl, rfl⟩)) | (go_at_call 60; ((with_reducible refine (HP.out _).mono ?_); rintro e w' ⟨rfl, rfl⟩)))
  go_ret
  refine ⟨some ⟨_, 0, none⟩, _, rfl, ?_, ?_⟩
  rotate_left
  first
  | exact bel5 _ _ _ _ _ _
  | exact (bel5 _ _ _ _ _ _).drew
  first
  | refine FS.next (FS.lit _ _ _ HWF.out _ ?_ _ (siz4 _ _ _ _ _)) (Below.refl _ _).drew
  | refine FS.lit _ _ _ HWF.out _ ?_ _ (siz4 _ _ _ _ _)
  rw [HF.out]
  simp [cellsF]
  try (rw [IntKind.wrap_u32]; omega)

set_option maxRecDepth 100000 in
set_option maxHeartbeats 4000000 in
theorem fields12 (o d n m a x k h t c : Int) (w : World) (hw : Tab6 w) (hs : shapeI o = 12) (hI : isI ⟨o, d, n, m, a, x, k, h, t, c⟩ = true) (hi : InB ⟨o, d, n, m, a, x, k, h, t, c⟩) :
    Calls Tryz.prog 39 #[inV ⟨o, d, n, m, a, x, k, h, t, c⟩] w (RetF (fldS 12 ⟨o, d, n, m, a, x, k, h, t, c⟩) w) := by
  have hf := facts12 hs hI
  have HWF := Lib.hid (wfF (enc12 hs hI).1 (apartL_right _ _ (apart_t 12 _ (by omega)).1))
  have HSh : Hid (∀ w, Tab6 w → Calls Tryz.prog 51 #[.int .i64 o] w (Ret (.int .i64 12) w)) := Lib.hid fun w h => by have := Shape_any o w h.1; rwa [hs] at this
  have HT := Lib.hid hw
  have hx := hi.imm
  simp only [i64B] at hx
  have hxb : -9223372036854775808 ≤ x.tdiv 4 ∧ x.tdiv 4 ≤ 9223372036854775807 := by
    obtain ⟨y, hy⟩ : ∃ y, x = 4 * y := Int.dvd_of_tmod_eq_zero (by simp only [hf])
    have := div_mul y 4 (by decide)
    rw [← hy] at this
    omega
  have HP : Hid (∀ w, Calls Tryz.prog 60 #[.int .i64 (x.tdiv 4), .int .i64 19] w (Ret (.int .u32 (pck (x.tdiv 4) 19).1) w)) := Lib.hid fun w => cpack_any _ _ w (by omega) (by omega)
  have hpb : 0 ≤ (pck (x.tdiv 4) 19).1 ∧ (pck (x.tdiv 4) 19).1 < 4294967296 := by
    have := HWF.out
    simp only [fldS, List.mem_cons, List.mem_nil_iff, or_false, forall_eq_or_imp, forall_eq] at this
    exact ⟨this.2.1, this.2.2.1⟩
  have HF : Hid (fldS 12 ⟨o, d, n, m, a, x, k, h, t, c⟩ = [(0, 4, c), (5, 19, (pck (x.tdiv 4) 19).1)]) := Lib.hid rfl
  generalize (pck (x.tdiv 4) 19).1 = p at *
  have hwr : IntKind.i64.wrap (x.tdiv 4) = x.tdiv 4 := by rw [IntKind.wrap_i64]; omega
  have HP2 : Hid (∀ w, Calls Tryz.prog 60 #[.int .i64 (IntKind.i64.wrap (x.tdiv 4)), .int .i64 19] w (Ret (.int .u32 p) w)) := Lib.hid fun w => by rw [hwr]; exact HP.out w
  clear hwr
  clear hw hs hI hi hx
  go_enter Tryz.func39, Tryz.ntmps39
  go_wp2_with (first | (go_at_call 51; ((with_reducible refine (HSh.out _ (HT.out.below (bel4 _ _ _ _ _))).mono ?_); rintro e w' ⟨rfl, rfl⟩)) | (go_at_call 60; ((with_reducible refine (HP.out _).mono ?_); rintro e w' ⟨rfl, rfl⟩)))
  first
  | (go_region_with (first | (go_at_call 60; ((with_reducible refine (HP2.out _).mono ?_); rintro e w' ⟨rfl, rfl⟩))))
  | fail
  all_goals
    go_wp2
    go_ret
    refine ⟨some ⟨_, 0, none⟩, _, rfl, ?_, ?_⟩
    rotate_left
    first
    | exact bel5 _ _ _ _ _ _
    | exact (bel5 _ _ _ _ _ _).drew
    first
    | refine FS.next (FS.lit _ _ _ HWF.out _ ?_ _ (siz4 _ _ _ _ _)) (Below.refl _ _).drew
    | refine FS.lit _ _ _ HWF.out _ ?_ _ (siz4 _ _ _ _ _)
    rw [HF.out]
    simp [cellsF]
    try (rw [IntKind.wrap_u32]; omega)
end Go.Proofs.YtdeigbdcipkaaaaGreatDoor
