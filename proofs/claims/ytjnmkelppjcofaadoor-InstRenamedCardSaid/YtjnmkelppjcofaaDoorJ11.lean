/- Two registers that change places: plain facts. -/
import Derived.Test.YtjnmkelppjcofaaDoorJ9
namespace Go.Proofs.YtjnmkelppjcofaaDoor
set_option linter.unusedVariables false
set_option linter.unusedSimpArgs false
open Go.RowKit

def swp (a b v : Int) : Int := if v = a then b else if v = b then a else v
def swN (a b v : Nat) : Nat := if v = a then b else if v = b then a else v
theorem swp_nat (a b v : Nat) : swp (a : Int) b v = (swN a b v : Nat) := by
  unfold swp swN
  by_cases h1 : v = a
  · rw [if_pos (by omega), if_pos h1]
  · by_cases h2 : v = b
    · rw [if_neg (by omega), if_pos (by omega), if_neg h1, if_pos h2]
    · rw [if_neg (by omega), if_neg (by omega), if_neg h1, if_neg h2]
theorem swN_swN (a b v : Nat) : swN a b (swN a b v) = v := by
  unfold swN
  (repeat' split) <;> omega
theorem swN_lt {a b v : Nat} (ha : a < 31) (hb : b < 31) (hv : v < 32) : swN a b v < 32 := by unfold swN; (repeat' split) <;> omega
theorem swN_31 {a b v : Nat} (ha : a < 31) (hb : b < 31) : (swN a b v != 31) = (v != 31) := by
  rw [Bool.eq_iff_iff, bne_iff_ne, bne_iff_ne]
  unfold swN
  (repeat' split) <;> omega
theorem swN_inj (a b : Nat) {x y : Nat} (h : swN a b x = swN a b y) : x = y := by rw [← swN_swN a b x, h, swN_swN]
theorem markF_sw {f g : Nat → Bool} {a b n : Nat} {st : Bool} (ha : a < 31) (hb : b < 31) (h : ∀ k, g (swN a b k) = f k) (k : Nat) : markF g (swN a b n) st (swN a b k) = markF f n st k := by
  unfold markF
  rw [h, swN_31 ha hb]
  congr 2
  rw [decide_eq_decide]
  exact ⟨fun e => swN_inj a b e, fun e => by rw [e]⟩

/-- The instruction with the places changed. -/
def swI (a b : Int) (i : In) : In :=
  { i with d := if hasDb (shapeI i.op) then swp a b i.d else i.d, n := if hasNb (shapeI i.op) then swp a b i.n else i.n, m := if hasMb (shapeI i.op) then swp a b i.m else i.m, a := if shapeI i.op == 6 then swp a b i.a else i.a }
theorem swp_b {a b v : Int} (ha : 0 ≤ a ∧ a ≤ 30) (hb : 0 ≤ b ∧ b ≤ 30) (hv : 0 ≤ v ∧ v ≤ 31) : 0 ≤ swp a b v ∧ swp a b v ≤ 31 := by unfold swp; (repeat' split) <;> omega
theorem ite_b {c : Bool} {x y : Int} (hx : 0 ≤ x ∧ x ≤ 31) (hy : 0 ≤ y ∧ y ≤ 31) : 0 ≤ (if c then x else y) ∧ (if c then x else y) ≤ 31 := by split <;> assumption
theorem swI_is {a b : Int} {i : In} (ha : 0 ≤ a ∧ a ≤ 30) (hb : 0 ≤ b ∧ b ≤ 30) (h : isI i = true) : isI (swI a b i) = true := by
  obtain ⟨r0, r1, r2, r3, r4, r5, r6, r7⟩ := regs_of h
  unfold isI at h ⊢
  have e : (swI a b i).op = i.op := rfl
  rw [e]
  simp only [Bool.and_eq_true] at h ⊢
  obtain ⟨⟨⟨h1, h2⟩, h3⟩, h4⟩ := h
  have hs := In.same h2
  refine ⟨⟨⟨h1, ?_⟩, ?_⟩, ?_⟩
  · have hd : hasDb (shapeI i.op) = false → i.d = 0 := fun hf => by have := congrArg In.d hs; simp only [ownI, pick, hf] at this; simpa using this.symm
    have hn : hasNb (shapeI i.op) = false → i.n = 0 := fun hf => by have := congrArg In.n hs; simp only [ownI, pick, hf] at this; simpa using this.symm
    have hm : hasMb (shapeI i.op) = false → i.m = 0 := fun hf => by have := congrArg In.m hs; simp only [ownI, pick, hf] at this; simpa using this.symm
    have hA : (shapeI i.op == 6) = false → i.a = 0 := fun hf => by have := congrArg In.a hs; simp only [ownI, pick, hf] at this; simpa using this.symm
    have g5 := congrArg In.imm hs
    have g6 := congrArg In.mask hs
    have g7 := congrArg In.shift hs
    have g8 := congrArg In.amount hs
    have g9 := congrArg In.cond hs
    simp only [ownI] at g5 g6 g7 g8 g9
    simp only [sameI, ownI, swI, g5, g6, g7, g8, g9, beq_self_eq_true, Bool.and_true, Bool.true_and, Bool.and_eq_true, beq_iff_eq]
    refine ⟨⟨⟨?_, ?_⟩, ?_⟩, ?_⟩
    · cases c : hasDb (shapeI i.op) <;> simp [pick, hd, c]
    · cases c : hasNb (shapeI i.op) <;> simp [pick, hn, c]
    · cases c : hasMb (shapeI i.op) <;> simp [pick, hm, c]
    · cases c : (shapeI i.op == 6)
      · simp [pick, hA c]
        intro h6; rw [h6] at c; cases c
      · simp [pick]
  · have b1 := ite_b (c := hasDb (shapeI i.op)) (swp_b ha hb ⟨r0, r1⟩) ⟨r0, r1⟩
    have b2 := ite_b (c := hasNb (shapeI i.op)) (swp_b ha hb ⟨r2, r3⟩) ⟨r2, r3⟩
    have b3 := ite_b (c := hasMb (shapeI i.op)) (swp_b ha hb ⟨r4, r5⟩) ⟨r4, r5⟩
    have b4 := ite_b (c := shapeI i.op == 6) (swp_b ha hb ⟨r6, r7⟩) ⟨r6, r7⟩
    unfold regsI
    rw [decide_eq_true_eq]
    exact ⟨b1.1, b1.2, b2.1, b2.2, b3.1, b3.2, b4.1, b4.2⟩
  · rw [← h4]; rfl
theorem marks_d : ∀ k, k < 40 → (k = 3 ∨ k = 23 ∨ k = 25 ∨ k = 32 ∨ k = 33) → hasDb (shapeI (k : Nat)) = true := by decide +kernel
theorem swI_read {a b : Nat} {i : In} (ha : a < 31) (hb : b < 31) (h : isI i = true) (h37 : i.op ≠ 37) (k : Nat) : readF (swI a b i) (swN a b k) = readF i k := by
  obtain ⟨r0, r1, r2, r3, r4, r5, r6, r7⟩ := regs_of h
  obtain ⟨o1, o2⟩ := op_of h
  obtain ⟨o, d, n, m, ra, x, mk, sh, t, c⟩ := i
  simp only at r0 r1 r2 r3 r4 r5 r6 r7 o1 o2 h37
  obtain ⟨d, rfl⟩ := Int.eq_ofNat_of_zero_le r0
  obtain ⟨n, rfl⟩ := Int.eq_ofNat_of_zero_le r2
  obtain ⟨m, rfl⟩ := Int.eq_ofNat_of_zero_le r4
  obtain ⟨ra, rfl⟩ := Int.eq_ofNat_of_zero_le r6
  unfold readF
  simp only [swI, swp_nat]
  generalize hs : shapeI o = s
  have z : ∀ k, (fun _ : Nat => false) (swN a b k) = (fun _ => false) k := fun _ => rfl
  have e1 : ∀ k, (if hasNb s then markF (fun _ => false) (if hasNb s then ((swN a b n : Nat) : Int) else (n : Int)).toNat (stackNb s) else fun _ => false) (swN a b k) = (if hasNb s then markF (fun _ => false) ((n : Int)).toNat (stackNb s) else fun _ => false) k := by
    intro k
    cases c1 : hasNb s
    · rfl
    · simp only [if_true, Int.toNat_natCast]; exact markF_sw ha hb z k
  have e2 : ∀ k, (if hasMb s then markF (if hasNb s then markF (fun _ => false) (if hasNb s then ((swN a b n : Nat) : Int) else (n : Int)).toNat (stackNb s) else fun _ => false) (if hasMb s then ((swN a b m : Nat) : Int) else (m : Int)).toNat false else (if hasNb s then markF (fun _ => false) (if hasNb s then ((swN a b n : Nat) : Int) else (n : Int)).toNat (stackNb s) else fun _ => false)) (swN a b k) =
      (if hasMb s then markF (if hasNb s then markF (fun _ => false) ((n : Int)).toNat (stackNb s) else fun _ => false) ((m : Int)).toNat false else (if hasNb s then markF (fun _ => false) ((n : Int)).toNat (stackNb s) else fun _ => false)) k := by
    intro k
    cases c1 : hasMb s
    · exact e1 k
    · simp only [if_true, Int.toNat_natCast]; exact markF_sw ha hb e1 k
  generalize (if hasNb s then markF (fun _ => false) (if hasNb s then ((swN a b n : Nat) : Int) else (n : Int)).toNat (stackNb s) else fun _ => false) = g1 at *
  generalize (if hasNb s then markF (fun _ => false) ((n : Int)).toNat (stackNb s) else fun _ => false) = f1 at *
  generalize (if hasMb s then markF g1 (if hasMb s then ((swN a b m : Nat) : Int) else (m : Int)).toNat false else g1) = g2 at *
  generalize (if hasMb s then markF f1 ((m : Int)).toNat false else f1) = f2 at *
  have e3 : ∀ k, (if s == 6 then markF g2 (if s == 6 then ((swN a b ra : Nat) : Int) else (ra : Int)).toNat false else g2) (swN a b k) = (if s == 6 then markF f2 ((ra : Int)).toNat false else f2) k := by
    intro k
    cases c1 : (s == 6)
    · exact e2 k
    · simp only [if_true, Int.toNat_natCast]; exact markF_sw ha hb e2 k
  generalize (if s == 6 then markF g2 (if s == 6 then ((swN a b ra : Nat) : Int) else (ra : Int)).toNat false else g2) = g3 at *
  generalize (if s == 6 then markF f2 ((ra : Int)).toNat false else f2) = f3 at *
  by_cases hd : o = 3 ∨ o = 23 ∨ o = 25 ∨ o = 32 ∨ o = 33
  · have hD : hasDb s = true := by
      rw [← hs]
      obtain ⟨q, rfl⟩ := Int.eq_ofNat_of_zero_le (show 0 ≤ o by omega)
      exact marks_d q (by omega) (by omega)
    rw [if_pos hd, if_pos hd, hD]
    simp only [if_true, Int.toNat_natCast]
    exact markF_sw ha hb e3 k
  · rw [if_neg hd, if_neg hd, if_neg h37, if_neg h37]
    exact e3 k
theorem swN_perm : ∀ a, a < 31 → ∀ b, b < 31 → ((List.range 32).map (swN a b)).isPerm (List.range 32) = true := by decide +kernel
theorem swI_mem {a b : Nat} {i : In} (ha : a < 31) (hb : b < 31) (h : isI i = true) (h37 : i.op ≠ 37) {v : Int} (hv : v ∈ readsI i) : memB (readsI (swI a b i)) (swp a b v) = true := by
  unfold readsI at hv ⊢
  rw [if_pos h] at hv
  rw [if_pos (swI_is (by omega) (by omega) h)]
  obtain ⟨k, rfl, hk, hf⟩ := riseL_mem hv
  rw [memB_iff, swp_nat]
  unfold riseL riseK
  refine List.mem_map.2 ⟨swN a b k, ?_, rfl⟩
  rw [List.mem_filter, List.mem_range]
  exact ⟨swN_lt ha hb hk, by rw [swI_read ha hb h h37]; exact hf⟩
theorem swI_len {a b : Nat} {i : In} (ha : a < 31) (hb : b < 31) (h : isI i = true) (h37 : i.op ≠ 37) : (readsI (swI a b i)).length = (readsI i).length := by
  unfold readsI
  rw [if_pos h, if_pos (swI_is (by omega) (by omega) h)]
  unfold riseL riseK
  simp only [List.length_map]
  rw [← List.countP_eq_length_filter, ← List.countP_eq_length_filter]
  have hp := List.isPerm_iff.1 (swN_perm a ha b hb)
  rw [← hp.countP_eq, List.countP_map]
  congr 1
  funext k
  exact swI_read ha hb h h37 k
theorem swI_writes {a b : Nat} {i : In} (ha : a < 31) (hb : b < 31) (h : isI i = true) (h30 : ¬ (i.op = 30 ∨ i.op = 35)) :
    (writesI i = (0, false) ∧ writesI (swI a b i) = (0, false)) ∨ (writesI i = (i.d, true) ∧ writesI (swI a b i) = (swp a b i.d, true)) := by
  have hj := swI_is (a := a) (b := b) (by omega) (by omega) h
  obtain ⟨r0, r1, r2, r3, r4, r5, r6, r7⟩ := regs_of h
  unfold writesI
  rw [h, hj]
  have e : (swI a b i).op = i.op := rfl
  rw [e]
  by_cases c1 : i.op = 23 ∨ i.op = 25 ∨ i.op = 32 ∨ i.op = 33
  · left
    rw [if_pos (.inr c1), if_pos (.inr c1)]; exact ⟨rfl, rfl⟩
  · have n1 : ¬ ((true = false) ∨ i.op = 23 ∨ i.op = 25 ∨ i.op = 32 ∨ i.op = 33) := by simp; omega
    rw [if_neg n1, if_neg n1, if_neg h30, if_neg h30]
    cases c2 : hasDb (shapeI i.op)
    · left; rw [if_pos (.inl rfl), if_pos (.inl rfl)]; exact ⟨rfl, rfl⟩
    · have ed : (swI a b i).d = swp a b i.d := by simp [swI, c2]
      rw [ed]
      have e31 : swp a b i.d = 31 ↔ i.d = 31 := by unfold swp; (repeat' split) <;> omega
      by_cases c3 : i.d = 31 ∧ stackDb i.op = false
      · left; rw [if_pos (.inr c3), if_pos (.inr ⟨e31.2 c3.1, c3.2⟩)]; exact ⟨rfl, rfl⟩
      · right
        rw [if_neg (by simp only [Bool.true_eq_false, false_or]; exact c3), if_neg (by simp only [Bool.true_eq_false, false_or, e31]; exact c3)]
        exact ⟨rfl, rfl⟩
end Go.Proofs.YtjnmkelppjcofaaDoor
