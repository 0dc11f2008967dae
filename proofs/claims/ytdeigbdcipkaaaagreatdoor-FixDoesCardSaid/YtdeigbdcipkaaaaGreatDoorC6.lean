/- The word of an instruction and the instruction of a word turn one another back; no function of the program in sight. -/
import Derived.Test.YtdeigbdcipkaaaaGreatDoorC5
namespace Go.Proofs.YtdeigbdcipkaaaaGreatDoor
set_option linter.unusedVariables false
set_option linter.unusedSimpArgs false
open Go.RowKit

def zf (f : F3) : F3 := (f.1, f.2.1, 0)
theorem apartL_zf : ∀ (l : List F3) (t : Nat), apartL (l.map zf) t = apartL l t := by
  intro l
  induction l with
  | nil => intro t; rfl
  | cons f r ih =>
    intro t
    rw [List.map_cons, apartL, apartL, ih]
    rfl
theorem orAll_zf : ∀ (l : List F3), orAll (l.map zf) = orAll l := by
  intro l
  induction l with
  | nil => rfl
  | cons f r ih => rw [List.map_cons, orAll, orAll, ih]; rfl
theorem fldS_zf (s : Nat) (i : In) (hs : s ≤ 16) : (fldS s i).map zf = (fldS s ⟨0, 0, 0, 0, 0, 0, 0, 0, 0, 0⟩).map zf := by
  have hc : s = 0 ∨ s = 1 ∨ s = 2 ∨ s = 3 ∨ s = 4 ∨ s = 5 ∨ s = 6 ∨ s = 7 ∨ s = 8 ∨ s = 9 ∨ s = 10 ∨ s = 11 ∨ s = 12 ∨ s = 13 ∨ s = 14 ∨ s = 15 ∨ s = 16 := by omega
  rcases hc with rfl | rfl | rfl | rfl | rfl | rfl | rfl | rfl | rfl | rfl | rfl | rfl | rfl | rfl | rfl | rfl | rfl
  all_goals simp only [fldS, List.map, zf]
set_option maxRecDepth 10000 in
theorem apart_z : ∀ s : Fin 17, apartL ((fldS s.val ⟨0, 0, 0, 0, 0, 0, 0, 0, 0, 0⟩).map zf) (tight s.val) = true ∧ apartL ((fldS s.val ⟨0, 0, 0, 0, 0, 0, 0, 0, 0, 0⟩).map zf) 0 = true ∧ orAll ((fldS s.val ⟨0, 0, 0, 0, 0, 0, 0, 0, 0, 0⟩).map zf) ||| tight s.val = 4294967295 := by decide +kernel
theorem apart_t (s : Nat) (i : In) (hs : s ≤ 16) : apartL (fldS s i) (tight s) = true ∧ apartL (fldS s i) 0 = true ∧ orAll (fldS s i) ||| tight s = 4294967295 := by
  have h := apart_z ⟨s, by omega⟩
  simp only [] at h
  rw [← fldS_zf s i hs, apartL_zf, apartL_zf, orAll_zf] at h
  exact h
theorem code_op {i : In} (h : isI i = true) : 1 ≤ i.op ∧ i.op ≤ 39 := by
  unfold isI at h
  simp only [Bool.and_eq_true] at h
  have := h.1.1.1
  apply Classical.byContradiction
  intro hc
  have e : shapeI i.op = 0 := by unfold shapeI; rw [if_pos (by omega)]
  rw [e] at this; simp at this
theorem isI_shape {i : In} (h : isI i = true) : shapeI i.op ≠ 0 := by
  unfold isI at h
  simp only [Bool.and_eq_true, bne_iff_ne] at h
  exact h.1.1.1
theorem enc_all (i : In) (hI : isI i = true) (hk : 0 ≤ i.mask ∧ i.mask < 18446744073709551616) :
    okF (fldS (shapeI i.op).toNat i) ∧ ∀ w : Nat, (∀ f ∈ fldS (shapeI i.op).toNat i, w / 2 ^ f.1.toNat % 2 ^ f.2.1.toNat = f.2.2.toNat) → decW i.op (shapeI i.op).toNat w = i := by
  have hb := shapeI_b i.op
  have h0 := isI_shape hI
  obtain ⟨s, hs⟩ := Int.eq_ofNat_of_zero_le hb.1
  obtain ⟨o, d, n, m, a, x, k, h, t, c⟩ := i
  simp only [] at hs hk h0 hb ⊢
  rw [hs, Int.toNat_natCast]
  have hc : s = 1 ∨ s = 2 ∨ s = 3 ∨ s = 4 ∨ s = 5 ∨ s = 6 ∨ s = 7 ∨ s = 8 ∨ s = 9 ∨ s = 10 ∨ s = 11 ∨ s = 12 ∨ s = 13 ∨ s = 14 ∨ s = 15 ∨ s = 16 := by omega
  rcases hc with rfl | rfl | rfl | rfl | rfl | rfl | rfl | rfl | rfl | rfl | rfl | rfl | rfl | rfl | rfl | rfl
  · exact enc1 hs hI
  · exact enc2 hs hI
  · exact enc3 hs hI hk
  · exact enc4 hs hI
  · exact enc5 hs hI
  · exact enc6 hs hI
  · exact enc7 hs hI
  · exact enc8 hs hI
  · exact enc9 hs hI
  · exact enc10 hs hI
  · exact enc11 hs hI
  · exact enc12 hs hI
  · exact enc13 hs hI
  · exact enc14 hs hI
  · exact enc15 hs hI
  · exact enc16 hs hI
theorem back_all (o : Int) (w : Nat) (hI : isI (decW o (shapeI o).toNat w) = true) (h0 : shapeI o ≠ 0) :
    ∀ f ∈ fldS (shapeI o).toNat (decW o (shapeI o).toNat w), f.2.2.toNat = w / 2 ^ f.1.toNat % 2 ^ f.2.1.toNat := by
  have hb := shapeI_b o
  obtain ⟨s, hs⟩ := Int.eq_ofNat_of_zero_le hb.1
  rw [hs, Int.toNat_natCast] at hI ⊢
  have hc : s = 1 ∨ s = 2 ∨ s = 3 ∨ s = 4 ∨ s = 5 ∨ s = 6 ∨ s = 7 ∨ s = 8 ∨ s = 9 ∨ s = 10 ∨ s = 11 ∨ s = 12 ∨ s = 13 ∨ s = 14 ∨ s = 15 ∨ s = 16 := by omega
  rcases hc with rfl | rfl | rfl | rfl | rfl | rfl | rfl | rfl | rfl | rfl | rfl | rfl | rfl | rfl | rfl | rfl
  · exact back1 hs hI
  · exact back2 hs hI
  · exact back3 hs hI
  · exact back4 hs hI
  · exact back5 hs hI
  · exact back6 hs hI
  · exact back7 hs hI
  · exact back8 hs hI
  · exact back9 hs hI
  · exact back10 hs hI
  · exact back11 hs hI
  · exact back12 hs hI
  · exact back13 hs hI
  · exact back14 hs hI
  · exact back15 hs hI
  · exact back16 hs hI
theorem decW_op (o : Int) (s w : Nat) : (decW o s w).op = o := by unfold decW; split <;> rfl
theorem encW_spec (i : In) (hI : isI i = true) (hk : 0 ≤ i.mask ∧ i.mask < 18446744073709551616) :
    ∃ c : Nat, wordS (fldS (shapeI i.op).toNat i) = ((c : Int), 0) ∧ baN i.op ||| c = encW i ∧ c < 4294967296 ∧ encW i < 4294967296 ∧ isOp i.op.toNat (encW i) = true ∧ decW i.op (shapeI i.op).toNat (encW i) = i := by
  obtain ⟨hok, hdec⟩ := enc_all i hI hk
  have ho := code_op hI
  have hb := shapeI_b i.op
  obtain ⟨a1, a2, -⟩ := apart_t (shapeI i.op).toNat i (by omega)
  have eo : ((i.op.toNat : Nat) : Int) = i.op := by omega
  have bi := base_in ⟨i.op.toNat, by omega⟩
  simp only [eo] at bi
  obtain ⟨d, hd, hd2, hd3, hd4⟩ := enc_gen _ _ _ hok a1 bi.1 bi.2
  have hW : encW i = d := by unfold encW; rw [hd]; rfl
  obtain ⟨c, hc⟩ := wordL_ok (fldS (shapeI i.op).toNat i) 0 hok
  have hor := wordL_or _ _ (baN i.op) _ hc
  rw [Nat.or_zero, hd] at hor
  simp only [Prod.mk.injEq, and_true] at hor
  have hcl := wordL_lt2 _ _ _ (apartL_right _ _ a2) hok (by decide) hc
  refine ⟨c, ?_, ?_, hcl, by omega, ?_, ?_⟩
  · unfold wordS; rw [if_neg (by rw [a2]; decide), hc]
  · rw [hW]; omega
  · unfold isOp; rw [eo, hW, hd4]; exact beq_self_eq_true _
  · rw [hW]; exact hdec d hd3
theorem back_spec (o w : Nat) (h1 : 1 ≤ o) (h2 : o < 40) (hw : w < 4294967296) (ho : isOp o w = true) (hI : isI (decW o (shapeI o).toNat w) = true) (hk : 0 ≤ (decW o (shapeI o).toNat w).mask ∧ (decW o (shapeI o).toNat w).mask < 18446744073709551616) :
    encW (decW o (shapeI o).toNat w) = w := by
  have h0 : shapeI o ≠ 0 := by have := isI_shape hI; rwa [decW_op] at this
  have hb := shapeI_b o
  have hback := back_all o w hI h0
  have hall := enc_all _ hI hk
  rw [decW_op] at hall
  obtain ⟨a1, a2, a3⟩ := apart_t (shapeI o).toNat (decW o (shapeI o).toNat w) (by omega)
  have bi := base_in ⟨o, h2⟩
  simp only [] at bi
  obtain ⟨d, hd, hd2, hd3, hd4⟩ := enc_gen _ _ _ hall.1 a1 bi.1 bi.2
  have hW : encW (decW o (shapeI o).toNat w) = d := by unfold encW; rw [decW_op, hd]; rfl
  rw [hW]
  refine word_ext _ _ d w (apartL_right _ _ a2) a3 hd2 hw (fun f hf => ?_) ?_
  · rw [hd3 f hf]; exact hback f hf
  · rw [hd4]; unfold isOp at ho; exact (eq_of_beq ho).symm
/-- The operation of a word; 0, if there is none. -/
def opW (w : Nat) : Nat := ((List.range 40).find? fun o => decide (1 ≤ o) && isOp o w).getD 0
theorem opW_is {o w : Nat} (h1 : 1 ≤ o) (h2 : o < 40) (h : isOp o w = true) : opW w = o := by
  unfold opW
  cases hf : (List.range 40).find? fun o => decide (1 ≤ o) && isOp o w with
  | none =>
    have := List.find?_eq_none.1 hf o (List.mem_range.2 h2)
    simp [h1, h] at this
  | some p =>
    have hp := List.find?_some hf
    have hm := List.mem_range.1 (List.mem_of_find?_eq_some hf)
    simp only [Bool.and_eq_true, decide_eq_true_eq] at hp
    exact isOp_uniq hp.1 hm h1 h2 hp.2 h
theorem opW_none {w : Nat} (h : ∀ o, 1 ≤ o → o < 40 → isOp o w = false) : opW w = 0 := by
  unfold opW
  cases hf : (List.range 40).find? fun o => decide (1 ≤ o) && isOp o w with
  | none => rfl
  | some p =>
    have hp := List.find?_some hf
    have hm := List.mem_range.1 (List.mem_of_find?_eq_some hf)
    simp only [Bool.and_eq_true, decide_eq_true_eq] at hp
    rw [h p hp.1 hm] at hp; simp at hp
theorem opW_or (w : Nat) : (opW w = 0 ∧ ∀ o, 1 ≤ o → o < 40 → isOp o w = false) ∨ (1 ≤ opW w ∧ opW w < 40 ∧ isOp (opW w) w = true) := by
  by_cases h : ∃ o, 1 ≤ o ∧ o < 40 ∧ isOp o w = true
  · obtain ⟨o, h1, h2, h3⟩ := h
    rw [opW_is h1 h2 h3]
    exact .inr ⟨h1, h2, h3⟩
  · left
    have hn : ∀ o, 1 ≤ o → o < 40 → isOp o w = false := by
      intro o h1 h2
      cases e : isOp o w
      · rfl
      · exact (h ⟨o, h1, h2, e⟩).elim
    exact ⟨opW_none hn, hn⟩
abbrev inZ : In := ⟨0, 0, 0, 0, 0, 0, 0, 0, 0, 0⟩
/-- What is read of a word. -/
def readW (w : Nat) : In := decW (opW w) (shapeI (opW w)).toNat w
def dI (w : Nat) : In × Int := if isI (readW w) = true then (readW w, 0) else (inZ, 11)
theorem decW_mask (o : Int) (s w : Nat) : 0 ≤ (decW o s w).mask ∧ (decW o s w).mask < 18446744073709551616 := by
  unfold decW
  split <;> first | (simp only []; omega) | skip
  simp only []
  rcases @dec_err (fw w 22 1) (fw w 16 6) (fw w 10 6) with ⟨a, e⟩ | ⟨e, -⟩
  · have := dec_lt e; rw [e]; exact this
  · rw [e]; omega
theorem readW_op (w : Nat) : (readW w).op = opW w := decW_op _ _ _
theorem dI_ok {w : Nat} (h : isI (readW w) = true) (hw : w < 4294967296) : encW (readW w) = w := by
  rcases opW_or w with ⟨e, -⟩ | ⟨h1, h2, h3⟩
  · exfalso
    have := code_op h
    rw [readW_op, e] at this; omega
  · exact back_spec (opW w) w h1 h2 hw h3 h (decW_mask _ _ _)
theorem dI_enc {i : In} (hI : isI i = true) (hk : 0 ≤ i.mask ∧ i.mask < 18446744073709551616) : opW (encW i) = i.op.toNat ∧ readW (encW i) = i ∧ dI (encW i) = (i, 0) := by
  obtain ⟨c, -, -, -, -, h1, h2⟩ := encW_spec i hI hk
  have ho := code_op hI
  have e := opW_is (by omega) (by omega) h1
  have er : readW (encW i) = i := by
    unfold readW
    rw [e, show ((i.op.toNat : Nat) : Int) = i.op from by omega]
    exact h2
  refine ⟨e, er, ?_⟩
  unfold dI
  rw [er, if_pos hI]
end Go.Proofs.YtdeigbdcipkaaaaGreatDoor
