/- code.Encode. -/
import Derived.Test.YtdeigbdcipkaaaaGreatDoorC9
namespace Go.Proofs.YtdeigbdcipkaaaaGreatDoor
set_option linter.unusedVariables false
set_option linter.unusedSimpArgs false
open Go.RowKit

theorem fields_any (i : In) (w : World) (hw : Tab6 w) (hI : isI i = true) (hi : InB i) : Calls Tryz.prog 39 #[inV i] w (RetF (fldS (shapeI i.op).toNat i) w) := by
  have hb := shapeI_b i.op
  have h0 := isI_shape hI
  obtain ⟨s, hs⟩ := Int.eq_ofNat_of_zero_le hb.1
  obtain ⟨o, d, n, m, a, x, k, h, t, c⟩ := i
  simp only [] at hs h0 hb ⊢
  rw [hs, Int.toNat_natCast]
  have hc : s = 1 ∨ s = 2 ∨ s = 3 ∨ s = 4 ∨ s = 5 ∨ s = 6 ∨ s = 7 ∨ s = 8 ∨ s = 9 ∨ s = 10 ∨ s = 11 ∨ s = 12 ∨ s = 13 ∨ s = 14 ∨ s = 15 ∨ s = 16 := by omega
  rcases hc with rfl | rfl | rfl | rfl | rfl | rfl | rfl | rfl | rfl | rfl | rfl | rfl | rfl | rfl | rfl | rfl
  · exact fields1 o d n m a x k h t c w hw hs hI hi
  · exact fields2 o d n m a x k h t c w hw hs hI hi
  · exact fields3 o d n m a x k h t c w hw hs hI hi
  · exact fields4 o d n m a x k h t c w hw hs hI hi
  · exact fields5 o d n m a x k h t c w hw hs hI hi
  · exact fields6 o d n m a x k h t c w hw hs hI hi
  · exact fields7 o d n m a x k h t c w hw hs hI hi
  · exact fields8 o d n m a x k h t c w hw hs hI hi
  · exact fields9 o d n m a x k h t c w hw hs hI hi
  · exact fields10 o d n m a x k h t c w hw hs hI hi
  · exact fields11 o d n m a x k h t c w hw hs hI hi
  · exact fields12 o d n m a x k h t c w hw hs hI hi
  · exact fields13 o d n m a x k h t c w hw hs hI hi
  · exact fields14 o d n m a x k h t c w hw hs hI hi
  · exact fields15 o d n m a x k h t c w hw hs hI hi
  · exact fields16 o d n m a x k h t c w hw hs hI hi
theorem fldS_len (s : Nat) (i : In) : (fldS s i).length ≤ 5 := by unfold fldS; split <;> simp
/-- What Encode tells. -/
def encP (i : In) : Int × Int := if isI i = true then ((encW i : Nat), 0) else (0, 1)

set_option maxRecDepth 100000 in
set_option maxHeartbeats 1000000 in
theorem CEncode_any (i : In) (w : World) (hw : Tab6 w) (hi : InB i) : Calls Tryz.prog 19 #[inV i] w (RetB (two .u32 .i64 (encP i)) w) := by
  have HT := Lib.hid hw
  have HIs : Hid (∀ w, Tab6 w → Calls Tryz.prog 37 #[inV i] w (RetB (.bool (isI i)) w)) := Lib.hid fun w h => InstIs_any i w h.1 hi
  have hten := Ten.made w i 44
  obtain ⟨X, hX⟩ : ∃ X, X = w.heap.size := ⟨_, rfl⟩
  obtain ⟨W0, hW0⟩ : ∃ W0, W0 = w.alloc (.cells (inC i) 44) := ⟨_, rfl⟩
  have hXl : X < W0.heap.size := by rw [hX, hW0]; simp
  rw [← hW0, ← hX] at hten
  have HW : Hid (Below w.heap.size w W0) := Lib.hid (by rw [hW0]; exact (Below.refl _ w).alloc (Nat.le_refl _) _)
  have HA := Lib.hid hten
  have HEQ := Lib.hid hW0
  have HXQ := Lib.hid hX
  have HB := Lib.hid (Below.refl W0.heap.size W0)
  have HTT : Hid (∀ wx, Below W0.heap.size W0 wx → Tab6 wx) := Lib.hid fun wx hb => HT.out.below (HW.out.trans (hb.mono HW.out.size))
  clear hX hW0 hten hw
  cases hI : isI i
  · have HE : Hid (encP i = (0, 1)) := Lib.hid (by unfold encP; rw [hI]; rfl)
    rw [hI] at HIs
    clear hI hi
    generalize encP i = ep at *
    obtain ⟨o, d, n, m, a, x, k, h, t, c⟩ := i
    go_enter Tryz.func19, Tryz.ntmps19
    go_wp2_with fail
    rw [← HEQ.out]
    refine (HIs.out _ (HTT.out _ HB.out)).mono ?_
    rintro e w1 ⟨rfl, hb⟩
    replace HB := Lib.hid (after HB.out hb)
    clear hb
    go_wp2
    go_ret2
    exact ⟨by rw [HE.out]; rfl, HW.out.trans (HB.out.mono HW.out.size)⟩
  · obtain ⟨c0, hws, hor, hc0, hlt, -, -⟩ := encW_spec i hI hi.mask
    have HE : Hid (encP i = (((encW i : Nat) : Int), 0)) := Lib.hid (by unfold encP; rw [hI]; rfl)
    have HF : Hid (∀ w, Tab6 w → Calls Tryz.prog 39 #[inV i] w (RetF (fldS (shapeI i.op).toNat i) w)) := Lib.hid fun w h => fields_any i w h hI hi
    have hl5 := fldS_len (shapeI i.op).toNat i
    have ho := code_op hI
    obtain ⟨kk, hkk⟩ := Int.eq_ofNat_of_zero_le (show 0 ≤ i.op by omega)
    have hk39 : kk ≤ 39 := by omega
    have HBA : Hid (∀ wx, Below W0.heap.size W0 wx → wx.cell? ⟨1, kk, none⟩ = some (.int .u32 ((baN i.op : Nat) : Int))) := Lib.hid fun wx hb => by
      have := (HTT.out wx hb).2.1.1 kk (by omega)
      rw [this, hkk]; rfl
    have hor2 := u32_or_nat (baN i.op) c0 (by have := (base_in ⟨kk, by omega⟩).2; simp only [← hkk] at this; exact this) hc0
    rw [hor] at hor2
    rw [hI] at HIs
    clear hI hi hor
    generalize encP i = ep at *
    generalize encW i = ew at *
    generalize baN i.op = ba at *
    generalize fldS (shapeI i.op).toNat i = l at *
    have HWd : Hid (∀ w a c, FS w w.heap.size a l.length l → Calls Tryz.prog 38 #[.slice a l.length c] w (RetB (.tuple #[.int .u32 c0, .int .i64 0]) w)) := Lib.hid fun w a c h => by
      have := word_any a l.length c l w (by omega) h
      rwa [hws] at this
    clear hws hl5
    generalize hn0 : l.length = n0 at *
    obtain ⟨o, d, n, m, a, x, k, h, t, c⟩ := i
    simp only [] at hkk ho
    subst hkk
    go_enter Tryz.func19, Tryz.ntmps19
    go_wp2_with fail
    rw [← HEQ.out, ← HXQ.out]
    refine (HIs.out _ (HTT.out _ HB.out)).mono ?_
    rintro e w1 ⟨rfl, hb⟩
    replace HB := Lib.hid (after HB.out hb)
    clear hb
    obtain ⟨a0, a1, a2, a3, a4, a5, a6, a7, a8, a9⟩ := HA.out.below HB.out hXl
    go_wp2_with (first
      | (go_at_call 39; ((with_reducible refine (HF.out _ (HTT.out _ HB.out)).mono ?_); rintro e w2 ⟨fa, fc, rfl, hfs, hb⟩; rw [hn0] at hfs ⊢; have HFS := Lib.hid hfs; replace HB := Lib.hid (after HB.out hb); clear hb hfs))
      | (go_at_call 38; ((with_reducible refine (HWd.out _ _ _ HFS.out).mono ?_); rintro e w3 ⟨rfl, hb⟩; replace HB := Lib.hid (after HB.out hb); clear hb; have hcell := HBA.out _ HB.out; clear a0 a1 a2 a3 a4 a5 a6 a7 a8 a9; obtain ⟨a0, a1, a2, a3, a4, a5, a6, a7, a8, a9⟩ := HA.out.below HB.out hXl)))
    go_ret2
    exact ⟨by rw [HE.out]; rfl, HW.out.trans (HB.out.mono HW.out.size)⟩
end Go.Proofs.YtdeigbdcipkaaaaGreatDoor
