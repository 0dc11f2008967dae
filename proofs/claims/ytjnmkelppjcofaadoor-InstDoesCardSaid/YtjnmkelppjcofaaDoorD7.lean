/- Registers put into a rising row: what with makes is the row with one more in its place; no function of the program in sight. -/
import Derived.Test.YtjnmkelppjcofaaDoorDA
import Derived.Test.YtjnmkelppjcofaaDoorJ5
namespace Go.Proofs.YtjnmkelppjcofaaDoor
set_option linter.unusedVariables false
set_option linter.unusedSimpArgs false
open Go.RowKit

def insL (v : Int) : List Int → List Int
  | [] => [v]
  | y :: t => if v < y then v :: y :: t else if v = y then y :: t else y :: insL v t
theorem stepW_done (v : Int) (l acc : List Int) : l.foldl (stepW v) (true, acc) = (true, acc ++ l) := by
  induction l generalizing acc with
  | nil => simp
  | cons y t ih =>
    rw [List.foldl_cons]
    have : stepW v (true, acc) y = (true, acc ++ [y]) := by simp [stepW]
    rw [this, ih, List.append_assoc]; rfl
theorem stepW_ins (v : Int) (l acc : List Int) : (if (l.foldl (stepW v) (false, acc)).1 then (l.foldl (stepW v) (false, acc)).2 else (l.foldl (stepW v) (false, acc)).2 ++ [v]) = acc ++ insL v l := by
  induction l generalizing acc with
  | nil => simp [insL]
  | cons y t ih =>
    rw [List.foldl_cons]
    by_cases h1 : v < y
    · have h2 : v ≤ y := by omega
      have : stepW v (false, acc) y = (true, acc ++ [v] ++ [y]) := by simp [stepW, h1, h2]
      rw [this, stepW_done]
      simp [insL, h1]
    · by_cases h2 : v = y
      · subst h2
        have : stepW v (false, acc) v = (true, acc ++ [v]) := by simp [stepW]
        rw [this, stepW_done]
        simp [insL]
      · have h3 : ¬ v ≤ y := by omega
        have : stepW v (false, acc) y = (false, acc ++ [y]) := by simp [stepW, h1, h3]
        rw [this, ih]
        simp [insL, h1, h2]
theorem withL_ins (l : List Int) (v : Int) : withL l v = insL v l := by
  unfold withL foldW
  rw [List.take_length]
  have := stepW_ins v l []
  rwa [List.nil_append] at this
theorem insL_len (v : Int) (l : List Int) : (insL v l).length ≤ l.length + 1 := by
  induction l with
  | nil => simp [insL]
  | cons y t ih =>
    simp only [insL]
    split
    · simp
    · split
      · simp
      · simp only [List.length_cons]; omega
theorem insL_mem (v x : Int) (l : List Int) : x ∈ insL v l ↔ x = v ∨ x ∈ l := by
  induction l with
  | nil => simp [insL]
  | cons y t ih =>
    simp only [insL]
    split
    · simp
    · split
      · rename_i h1 h2; subst h2; simp
      · simp only [List.mem_cons, ih]
        constructor
        · rintro (h | h | h)
          · exact .inr (.inl h)
          · exact .inl h
          · exact .inr (.inr h)
        · rintro (h | h | h)
          · exact .inr (.inl h)
          · exact .inl h
          · exact .inr (.inr h)
theorem insL_rise (v : Int) (l : List Int) (h : l.Pairwise (· < ·)) : (insL v l).Pairwise (· < ·) := by
  induction l with
  | nil => simp [insL]
  | cons y t ih =>
    rw [List.pairwise_cons] at h
    simp only [insL]
    split
    · rename_i h1
      rw [List.pairwise_cons]
      refine ⟨fun z hz => ?_, List.pairwise_cons.2 h⟩
      rcases List.mem_cons.1 hz with rfl | hz
      · exact h1
      · have := h.1 z hz; omega
    · split
      · exact List.pairwise_cons.2 h
      · rename_i h1 h2
        rw [List.pairwise_cons]
        refine ⟨fun z hz => ?_, ih h.2⟩
        rcases (insL_mem v z t).1 hz with rfl | hz
        · omega
        · exact h.1 z hz
theorem rise_ext (l m : List Int) (hl : l.Pairwise (· < ·)) (hm : m.Pairwise (· < ·)) (h : ∀ x, x ∈ l ↔ x ∈ m) : l = m := by
  induction l generalizing m with
  | nil =>
    cases m with
    | nil => rfl
    | cons y t => have := (h y).2 (by simp); simp at this
  | cons x t ih =>
    cases m with
    | nil => have := (h x).1 (by simp); simp at this
    | cons y u =>
      rw [List.pairwise_cons] at hl hm
      have hx := (h x).1 (by simp)
      have hy := (h y).2 (by simp)
      have e : x = y := by
        rcases List.mem_cons.1 hx with e | hx
        · exact e
        · rcases List.mem_cons.1 hy with e | hy
          · exact e.symm
          · have a := hm.1 x hx; have b := hl.1 y hy; omega
      subst e
      congr 1
      refine ih u hl.2 hm.2 fun z => ?_
      have hz := h z
      constructor
      · intro k
        rcases List.mem_cons.1 (hz.1 (List.mem_cons_of_mem _ k)) with e | r
        · have := hl.1 z k; omega
        · exact r
      · intro k
        rcases List.mem_cons.1 (hz.2 (List.mem_cons_of_mem _ k)) with e | r
        · have := hm.1 z k; omega
        · exact r
theorem riseL_iff (f : Nat → Bool) (v : Int) : v ∈ riseL f ↔ ∃ k : Nat, v = (k : Int) ∧ k < 32 ∧ f k = true := by
  unfold riseL riseK
  simp only [List.mem_map, List.mem_filter, List.mem_range]
  constructor
  · rintro ⟨k, ⟨h1, h2⟩, rfl⟩; exact ⟨k, rfl, h1, h2⟩
  · rintro ⟨k, rfl, h1, h2⟩; exact ⟨k, ⟨h1, h2⟩, rfl⟩
theorem riseL_up (f : Nat → Bool) : (riseL f).Pairwise (· < ·) := by
  unfold riseL riseK
  rw [List.pairwise_map]
  refine List.Pairwise.filter _ (List.pairwise_lt_range.imp ?_)
  intro a b h
  exact Int.ofNat_lt.2 h
/-- A row with one more, if a test holds. -/
def putL (b : Bool) (v : Int) (l : List Int) : List Int := if b then withL l v else l
theorem putL_mem (b : Bool) (v x : Int) (l : List Int) : x ∈ putL b v l ↔ (b = true ∧ x = v) ∨ x ∈ l := by
  unfold putL
  cases b
  · simp
  · simp [withL_ins, insL_mem]
theorem putL_rise (b : Bool) (v : Int) (l : List Int) (h : l.Pairwise (· < ·)) : (putL b v l).Pairwise (· < ·) := by
  unfold putL
  cases b
  · exact h
  · simp only [if_true, withL_ins]; exact insL_rise v l h
theorem putL_len (b : Bool) (v : Int) (l : List Int) : (putL b v l).length ≤ l.length + 1 := by
  unfold putL
  cases b
  · simp
  · simp only [if_true, withL_ins]; exact insL_len v l
/-- The tests of the five registers. -/
def c1 (s : Int) (n : Int) : Bool := hasNb s && (decide (n < 31) || s == 2 || s == 7 || s == 8)
def c2 (s : Int) (m : Int) : Bool := hasMb s && decide (m < 31)
def c3 (s : Int) (a : Int) : Bool := s == 6 && decide (a < 31)
def c4 (o : Int) (d : Int) : Bool := decide (d < 31) && (o == 3 || o == 23 || o == 25 || o == 32 || o == 33)
def readsR (i : In) : List Int :=
  putL (i.op == 37) 0 (putL (c4 i.op i.d) i.d (putL (c3 (shapeI i.op) i.a) i.a (putL (c2 (shapeI i.op) i.m) i.m (putL (c1 (shapeI i.op) i.n) i.n []))))
theorem markF_iff (f : Nat → Bool) (n : Nat) (st : Bool) (j : Nat) : markF f n st j = true ↔ f j = true ∨ (j = n ∧ (n ≠ 31 ∨ st = true)) := by
  unfold markF
  simp
theorem readF_iff (i : In) (j : Nat) : readF i j = true ↔
    (hasNb (shapeI i.op) = true ∧ j = i.n.toNat ∧ (i.n.toNat ≠ 31 ∨ stackNb (shapeI i.op) = true)) ∨ (hasMb (shapeI i.op) = true ∧ j = i.m.toNat ∧ i.m.toNat ≠ 31) ∨ (shapeI i.op = 6 ∧ j = i.a.toNat ∧ i.a.toNat ≠ 31) ∨
    ((i.op = 3 ∨ i.op = 23 ∨ i.op = 25 ∨ i.op = 32 ∨ i.op = 33) ∧ j = i.d.toNat ∧ i.d.toNat ≠ 31) ∨ (i.op = 37 ∧ j = 0) := by
  unfold readF
  generalize hasNb (shapeI i.op) = bn
  generalize hasMb (shapeI i.op) = bm
  generalize stackNb (shapeI i.op) = st
  by_cases h6 : shapeI i.op = 6
  · have q6 : (shapeI i.op == 6) = true := by rw [h6]; rfl
    rw [q6]
    by_cases hq : i.op = 3 ∨ i.op = 23 ∨ i.op = 25 ∨ i.op = 32 ∨ i.op = 33
    · rw [if_pos hq]
      have h37 : ¬ i.op = 37 := by omega
      cases bn <;> cases bm <;> simp only [if_true, if_false, Bool.false_eq_true, markF_iff, h6, hq, h37, ne_eq, or_false, false_and, true_and, false_or] <;> grind
    · rw [if_neg hq]
      by_cases h37 : i.op = 37
      · rw [if_pos h37]
        cases bn <;> cases bm <;> simp only [if_true, if_false, Bool.false_eq_true, markF_iff, h6, hq, h37, ne_eq, or_false, false_and, true_and, false_or] <;> grind
      · rw [if_neg h37]
        cases bn <;> cases bm <;> simp only [if_true, if_false, Bool.false_eq_true, markF_iff, h6, hq, h37, ne_eq, or_false, false_and, true_and, false_or] <;> grind
  · have q6 : (shapeI i.op == 6) = false := by rw [beq_eq_false_iff_ne]; exact h6
    rw [q6]
    by_cases hq : i.op = 3 ∨ i.op = 23 ∨ i.op = 25 ∨ i.op = 32 ∨ i.op = 33
    · rw [if_pos hq]
      have h37 : ¬ i.op = 37 := by omega
      cases bn <;> cases bm <;> simp only [if_true, if_false, Bool.false_eq_true, markF_iff, h6, hq, h37, ne_eq, or_false, false_and, true_and, false_or] <;> grind
    · rw [if_neg hq]
      by_cases h37 : i.op = 37
      · rw [if_pos h37]
        cases bn <;> cases bm <;> simp only [if_true, if_false, Bool.false_eq_true, markF_iff, h6, hq, h37, ne_eq, or_false, false_and, true_and, false_or] <;> grind
      · rw [if_neg h37]
        cases bn <;> cases bm <;> simp only [if_true, if_false, Bool.false_eq_true, markF_iff, h6, hq, h37, ne_eq, or_false, false_and, true_and, false_or] <;> grind
theorem readsR_eq (i : In) (h : isI i = true) : readsR i = readsI i := by
  obtain ⟨r0, r1, r2, r3, r4, r5, r6, r7⟩ := regs_of h
  unfold readsI
  rw [if_pos h]
  have up : (readsR i).Pairwise (· < ·) := by
    unfold readsR
    exact putL_rise _ _ _ (putL_rise _ _ _ (putL_rise _ _ _ (putL_rise _ _ _ (putL_rise _ _ _ List.Pairwise.nil))))
  refine rise_ext _ _ up (riseL_up _) fun x => ?_
  rw [riseL_iff]
  unfold readsR
  simp only [putL_mem, readF_iff, List.not_mem_nil, or_false]
  unfold c1 c2 c3 c4 stackNb
  simp only [Bool.and_eq_true, Bool.or_eq_true, decide_eq_true_eq, beq_iff_eq]
  generalize hasNb (shapeI i.op) = bn
  generalize hasMb (shapeI i.op) = bm
  generalize shapeI i.op = s
  constructor
  · rintro (⟨h1, rfl⟩ | ⟨⟨h1, h2⟩, rfl⟩ | ⟨⟨h1, h2⟩, rfl⟩ | ⟨⟨h1, h2⟩, rfl⟩ | ⟨⟨h1, h2⟩, rfl⟩)
    · exact ⟨0, rfl, by omega, .inr (.inr (.inr (.inr ⟨h1, rfl⟩)))⟩
    · exact ⟨i.d.toNat, by omega, by omega, .inr (.inr (.inr (.inl ⟨by omega, rfl, by omega⟩)))⟩
    · exact ⟨i.a.toNat, by omega, by omega, .inr (.inr (.inl ⟨h1, rfl, by omega⟩))⟩
    · exact ⟨i.m.toNat, by omega, by omega, .inr (.inl ⟨h1, rfl, by omega⟩)⟩
    · exact ⟨i.n.toNat, by omega, by omega, .inl ⟨h1, rfl, by omega⟩⟩
  · rintro ⟨k, rfl, hk, (⟨h1, rfl, h2⟩ | ⟨h1, rfl, h2⟩ | ⟨h1, rfl, h2⟩ | ⟨h1, rfl, h2⟩ | ⟨h1, rfl⟩)⟩
    · exact .inr (.inr (.inr (.inr ⟨⟨h1, by omega⟩, by omega⟩)))
    · exact .inr (.inr (.inr (.inl ⟨⟨h1, by omega⟩, by omega⟩)))
    · exact .inr (.inr (.inl ⟨⟨h1, by omega⟩, by omega⟩))
    · exact .inr (.inl ⟨⟨by omega, by omega⟩, by omega⟩)
    · exact .inl ⟨h1, rfl⟩
end Go.Proofs.YtjnmkelppjcofaaDoor
