/- show: no two instructions are shown alike, plain. -/
import Derived.Test.YtkcgnmicaigjfaaDoorwA
namespace Go.Proofs.YtkcgnmicaigjfaaDoor
set_option linter.unusedVariables false
set_option linter.unusedSimpArgs false
open Go.ChangeShapes Go.WideShapes Go.Deep Go.RowKit

theorem isI_parts {i : In} (h : isI i = true) : (1 ≤ i.op ∧ i.op ≤ 39) ∧ ownI (shapeI i.op) i = i ∧ Reg32 i.d ∧ Reg32 i.n ∧ Reg32 i.m ∧ Reg32 i.a ∧ numI (shapeI i.op) i = true := by
  have h1 := op_of h
  have h2 := regs_of h
  unfold isI at h
  simp only [Bool.and_eq_true] at h
  exact ⟨h1, In.same h.1.1.2, ⟨h2.1, h2.2.1⟩, ⟨h2.2.2.1, h2.2.2.2.1⟩, ⟨h2.2.2.2.2.1, h2.2.2.2.2.2.1⟩, ⟨h2.2.2.2.2.2.2.1, h2.2.2.2.2.2.2.2⟩, h.2⟩
theorem dSt_31 {i : In} (h : dSt i = true) : i.d = 31 := by
  unfold dSt writesI at h
  simp only [Bool.and_eq_true, decide_eq_true_eq] at h
  split at h
  · exact absurd h.1 (by simp)
  · split at h
    · exact absurd h.2 (by decide)
    · split at h
      · exact absurd h.1 (by simp)
      · exact h.2
theorem nSt_31 {i : In} (h : nSt i = true) : i.n = 31 := by
  unfold nSt at h
  simp only [Bool.and_eq_true, decide_eq_true_eq] at h
  exact h.1
theorem dT_inj {i j : In} (hi : Reg32 i.d) (hj : Reg32 j.d) (h : dT i = dT j) : i.d = j.d := rT_inj hi hj dSt_31 dSt_31 h
theorem bT_inj {i j : In} (hi : Reg32 i.n) (hj : Reg32 j.n) (h : bT i = bT j) : i.n = j.n := rT_inj hi hj nSt_31 nSt_31 h
theorem mT_inj {i j : In} (hi : Reg32 i.m) (hj : Reg32 j.m) (h : mT i = mT j) : i.m = j.m := rT_inj hi hj (fun e => by cases e) (fun e => by cases e) h
theorem aT_inj {i j : In} (hi : Reg32 i.a) (hj : Reg32 j.a) (h : aT i = aT j) : i.a = j.a := rT_inj hi hj (fun e => by cases e) (fun e => by cases e) h
theorem maT_inj {i j : In} (hi : 0 ≤ i.mask) (hj : 0 ≤ j.mask) (h : maT i = maT j) : i.mask = j.mask := by
  unfold maT at h
  simp only [List.cons.injEq, true_and] at h
  have := digL_inj (by decide) (by decide) _ _ h
  omega
theorem pl_noC {q : List UInt8} (h : ∀ x ∈ q, pl x = true) : ∀ x ∈ q, cm x = false := fun x hx => pl_cm (h x hx)
theorem shP_noC (i : In) : NoC (shP i) := by
  unfold shP
  split
  · intro q hq; cases hq
  · intro q hq x hx
    rw [List.mem_singleton] at hq
    subst hq
    rcases List.mem_append.1 hx with hx | hx
    · exact pl_cm (shNm_pl _ x hx)
    · rcases List.mem_cons.1 hx with rfl | hx
      · rfl
      · exact pl_cm (int_pl _ x hx)
theorem noC_app {l m : List (List UInt8)} (hl : NoC l) (hm : NoC m) : NoC (l ++ m) := fun q hq => (List.mem_append.1 hq).elim (hl q) (hm q)
theorem noC_cons {p : List UInt8} {m : List (List UInt8)} (hp : ∀ x ∈ p, cm x = false) (hm : NoC m) : NoC (p :: m) := fun q hq => (List.mem_cons.1 hq).elim (fun e => e ▸ hp) (hm q)
theorem noC_nil : NoC [] := fun q hq => by cases hq
theorem pieces_noC {i : In} (h : isI i = true) : NoC (piecesI i) := by
  obtain ⟨-, -, hd, hn, hm, ha, -⟩ := isI_parts h
  have d := pl_noC (rT_pl hd (dSt i))
  have n := pl_noC (rT_pl hn (nSt i))
  have m := pl_noC (rT_pl hm false)
  have a := pl_noC (rT_pl ha false)
  have x := pl_noC (int_pl i.imm)
  have k := pl_noC (ma_pl i)
  have c := pl_noC (coT_pl i)
  have b1 : ∀ z ∈ (91 :: bT i : List UInt8), cm z = false := fun z hz => (List.mem_cons.1 hz).elim (fun e => e ▸ rfl) (n z)
  have b2 : ∀ z ∈ (intT i.imm ++ [93] : List UInt8), cm z = false := fun z hz => (List.mem_append.1 hz).elim (x z) (fun e => by rw [List.mem_singleton] at e; rw [e]; rfl)
  have s := shP_noC i
  unfold piecesI
  simp only
  repeat' split
  · exact noC_cons d (noC_cons x s)
  · exact noC_cons d (noC_cons n (noC_cons x s))
  · exact noC_cons d (noC_cons n (noC_cons k noC_nil))
  · exact noC_cons d (noC_cons n (noC_cons m s))
  · exact noC_cons d (noC_cons n (noC_cons m (noC_cons a noC_nil)))
  · exact noC_cons d (noC_cons b1 (noC_cons b2 noC_nil))
  · exact noC_cons d (noC_cons x noC_nil)
  · exact noC_cons x noC_nil
  · exact noC_cons n noC_nil
  · exact noC_cons d (noC_cons n (noC_cons m (noC_cons c noC_nil)))
  · exact noC_nil
def dt (c : UInt8) : Bool := c == 46
theorem nm_pl : ∀ k : Fin 40, (nmL.getD k.val []).all (fun c => !(sp c) && !(dt c)) = true := by decide +kernel
theorem nm_noSD {k : Nat} (h : k < 40) : ∀ x ∈ nmL.getD k [], sp x = false ∧ dt x = false := fun x hx => by
  have := List.all_eq_true.1 (nm_pl ⟨k, h⟩) x hx
  simpa using this
def pairK (k l : Nat) : Bool := [((2 : Int), (4 : Int)), (4, 2), (3, 5), (5, 3), (7, 9), (9, 7)].contains (shL.getD k 0, shL.getD l 0)
theorem nm_eqB : ((List.range 40).all fun k => (List.range 40).all fun l => k == 0 || l == 0 || (nmL.getD k [] != nmL.getD l []) || k == l || (k == 29 && l == 31) || (k == 31 && l == 29) || pairK k l) = true := by decide +kernel
theorem nm_eq (k l : Fin 40) (h1 : 1 ≤ k.val) (h2 : 1 ≤ l.val) (h : nmL.getD k.val [] = nmL.getD l.val []) : k = l ∨ (k.val = 29 ∧ l.val = 31) ∨ (k.val = 31 ∧ l.val = 29) ∨ pairK k.val l.val = true := by
  have h3 := List.all_eq_true.1 (List.all_eq_true.1 nm_eqB k.val (List.mem_range.2 k.isLt)) l.val (List.mem_range.2 l.isLt)
  rw [h] at h3
  simp only [bne_self_eq_false, Bool.or_false, Bool.or_eq_true, beq_iff_eq, Bool.and_eq_true] at h3
  rcases h3 with ((((h3 | h3) | h3) | h3) | h3) | h3
  · omega
  · omega
  · exact .inl (Fin.ext h3)
  · exact .inr (.inl h3)
  · exact .inr (.inr (.inl h3))
  · exact .inr (.inr (.inr h3))
theorem head_eq {i j : In} (hi : 1 ≤ i.op ∧ i.op ≤ 39) (hj : 1 ≤ j.op ∧ j.op ≤ 39) (h : headT i = headT j) : (i.op = j.op ∧ (i.op = 31 → coT i = coT j)) ∨ pairK i.op.toNat j.op.toNat = true := by
  unfold headT at h
  have r : ∀ i : In, ∀ c t, (if i.op = 31 then (46 :: coT i : List UInt8) else []) = c :: t → dt c = true := by
    intro i c t e
    split at e
    · rw [← (List.cons.inj e).1]; rfl
    · cases e
  obtain ⟨h1, h2⟩ := cutP dt _ _ _ _ (fun x hx => (nm_noSD (k := i.op.toNat) (by omega) x hx).2) (fun x hx => (nm_noSD (k := j.op.toNat) (by omega) x hx).2) (r i) (r j) h
  rcases nm_eq ⟨i.op.toNat, by omega⟩ ⟨j.op.toNat, by omega⟩ (by simp only; omega) (by simp only; omega) h1 with e | e | e | e
  · simp only [Fin.mk.injEq] at e
    refine .inl ⟨by omega, fun e31 => ?_⟩
    rw [if_pos e31, if_pos (by omega)] at h2
    exact (List.cons.inj h2).2
  · simp only at e
    rw [if_neg (by omega), if_pos (by omega)] at h2; cases h2
  · simp only at e
    rw [if_pos (by omega), if_neg (by omega)] at h2; cases h2
  · exact .inr e
theorem head_noS {i : In} (hi : 1 ≤ i.op ∧ i.op ≤ 39) : ∀ x ∈ headT i, sp x = false := by
  intro x hx
  unfold headT at hx
  rcases List.mem_append.1 hx with hx | hx
  · exact (nm_noSD (k := i.op.toNat) (by omega) x hx).1
  · split at hx
    · rcases List.mem_cons.1 hx with rfl | hx
      · rfl
      · exact pl_sp (coT_pl i x hx)
    · cases hx
theorem shape_at {i : In} (h : 1 ≤ i.op ∧ i.op ≤ 39) : shapeI i.op = shL.getD i.op.toNat 0 := by unfold shapeI; rw [if_neg (by omega)]
theorem within_of {n l m s : Int} (h : withinI n l m s = true) : l ≤ n ∧ n ≤ m := by
  unfold withinI at h
  simp only [Bool.and_eq_true, decide_eq_true_eq] at h
  exact h.1
theorem ne_head {a b : List UInt8} {c d : UInt8} (ha : a.head? = some c) (hb : b.head? = some d) (h : c ≠ d) : a ≠ b := by
  rintro rfl; rw [ha] at hb; exact h (Option.some.inj hb)
theorem reg_ne {n : Int} {s : Bool} {b : List UInt8} (hn : Reg32 n) (hs : s = true → n = 31) (hb : b.head? = some 35) : rT n s ≠ b := by
  rcases rT_head hn hs with h | h
  · exact ne_head h hb (by decide)
  · exact ne_head h hb (by decide)
theorem pair_no {i j : In} (hi : isI i = true) (hj : isI j = true) (hk : pairK i.op.toNat j.op.toNat = true) (h : piecesI i = piecesI j) : False := by
  obtain ⟨oi, -, di, ni, mi, -, -⟩ := isI_parts hi
  obtain ⟨oj, -, dj, nj, mj, -, -⟩ := isI_parts hj
  unfold pairK at hk
  rw [← shape_at oi, ← shape_at oj] at hk
  simp only [List.contains_cons, List.contains_nil, Bool.or_false, Bool.or_eq_true, beq_iff_eq, Prod.mk.injEq] at hk
  unfold piecesI at h
  have xi : (maT i).head? = some 35 := rfl
  have xj : (maT j).head? = some 35 := rfl
  rcases hk with ⟨a, b⟩ | ⟨a, b⟩ | ⟨a, b⟩ | ⟨a, b⟩ | ⟨a, b⟩ | ⟨a, b⟩ <;> rw [a, b] at h <;> simp at h
  · exact reg_ne mj (fun e => by cases e) (int_head _) h.2.2.1.symm
  · exact reg_ne mi (fun e => by cases e) (int_head _) h.2.2.1
  · have h3 := h.2.2
    first
    | exact reg_ne mj (fun e => by cases e) xj.symm.symm (by rw [← h3.1]) 
    | (exact reg_ne mj (fun e => by cases e) xi h3.1.symm)
  · exact reg_ne mi (fun e => by cases e) xj h.2.2.1
/-- No two right instructions are shown alike. -/
theorem showT_inj {i j : In} (hi : isI i = true) (hj : isI j = true) (bi : InB i) (bj : InB j) (h : showT i = showT j) : i = j := by
  obtain ⟨oi, wi, di, ni, mi, ai, ki⟩ := isI_parts hi
  obtain ⟨oj, wj, dj, nj, mj, aj, kj⟩ := isI_parts hj
  obtain ⟨h1, h2⟩ := cutP sp _ _ _ _ (head_noS oi) (head_noS oj) (joinP_head _) (joinP_head _) h
  have h3 := joinP_inj _ _ (pieces_noC hi) (pieces_noC hj) h2
  rcases head_eq oi oj h1 with ⟨e, ec⟩ | e
  rotate_left
  · exact (pair_no hi hj e h3).elim
  have hs : shapeI j.op = shapeI i.op := by rw [e]
  have mki := bi.mask.1
  have mkj := bj.mask.1
  have HD : dT i = dT j → i.d = j.d := dT_inj di dj
  have HN : bT i = bT j → i.n = j.n := bT_inj ni nj
  have HM : mT i = mT j → i.m = j.m := mT_inj mi mj
  have HA : aT i = aT j → i.a = j.a := aT_inj ai aj
  have HK : maT i = maT j → i.mask = j.mask := maT_inj mki mkj
  have HX : intT i.imm = intT j.imm → i.imm = j.imm := int_inj
  have HC : (0 ≤ i.cond ∧ i.cond ≤ 13) → (0 ≤ j.cond ∧ j.cond ≤ 13) → coT i = coT j → i.cond = j.cond := coT_inj
  have HS : (0 ≤ i.shift ∧ i.shift ≤ 3) → (0 ≤ j.shift ∧ j.shift ≤ 3) → shP i = shP j → i.shift = j.shift ∧ i.amount = j.amount := shP_inj
  have h12 : shapeI i.op = 12 → i.op = 31 := by
    intro hh
    rw [shape_at oi] at hh
    have : ∀ k : Fin 40, shL.getD k.val 0 = 12 → k.val = 31 := by decide +kernel
    have := this ⟨i.op.toNat, by omega⟩ hh
    simp only at this; omega
  rw [hs] at wj kj
  unfold piecesI at h3
  rw [hs] at h3
  have sb := shapeI_b i.op
  have s0 : shapeI i.op ≠ 0 := by
    unfold isI at hi
    simp only [Bool.and_eq_true, bne_iff_ne] at hi
    exact hi.1.1.1
  generalize shapeI i.op = s at *
  have hc : s = 1 ∨ s = 2 ∨ s = 3 ∨ s = 4 ∨ s = 5 ∨ s = 6 ∨ s = 7 ∨ s = 8 ∨ s = 9 ∨ s = 10 ∨ s = 11 ∨ s = 12 ∨ s = 13 ∨ s = 14 ∨ s = 15 ∨ s = 16 := by omega
  clear h h1 h2 hs sb s0 hi hj bi bj di ni mi ai dj nj mj aj mki mkj
  rw [← wi, ← wj]
  rcases hc with rfl | rfl | rfl | rfl | rfl | rfl | rfl | rfl | rfl | rfl | rfl | rfl | rfl | rfl | rfl | rfl
  all_goals
    simp only [numI, Bool.and_eq_true, reduceIte, Int.reduceEq, or_false, or_true, or_self, List.cons_append, List.nil_append, List.cons.injEq, and_true, List.append_cancel_right_eq] at h3 ki kj
    simp only [ownI, pick, hasDb, hasNb, hasMb, In.mk.injEq]
    simp (decide := true) only [decide_true, decide_false, Bool.and_true, Bool.true_and, Bool.and_false, Bool.false_and, Bool.or_true, Bool.true_or, Bool.or_false, Bool.false_or, if_true, if_false, Int.reduceBEq, Int.reduceLE, and_true, true_and, and_self, reduceIte]
  · have z1 : (0 : Int) = i.shift := congrArg In.shift wi
    have z2 : (0 : Int) = j.shift := congrArg In.shift wj
    exact ⟨e, HD h3.1, HX h3.2.1, (HS (by omega) (by omega) h3.2.2).2⟩
  · have z1 : (0 : Int) = i.shift := congrArg In.shift wi
    have z2 : (0 : Int) = j.shift := congrArg In.shift wj
    exact ⟨e, HD h3.1, HN h3.2.1, HX h3.2.2.1, (HS (by omega) (by omega) h3.2.2.2).2⟩
  · exact ⟨e, HD h3.1, HN h3.2.1, HK h3.2.2⟩
  · have z1 := within_of ki.1
    have z2 := within_of kj.1
    have z3 := HS (by omega) (by omega) h3.2.2.2
    exact ⟨e, HD h3.1, HN h3.2.1, HM h3.2.2.1, z3.1, z3.2⟩
  · have z1 := within_of ki.1
    have z2 := within_of kj.1
    have z3 := HS (by omega) (by omega) h3.2.2.2
    exact ⟨e, HD h3.1, HN h3.2.1, HM h3.2.2.1, z3.1, z3.2⟩
  · exact ⟨e, HD h3.1, HN h3.2.1, HM h3.2.2.1, HA h3.2.2.2⟩
  · exact ⟨e, HD h3.1, HN h3.2.1.2, HX h3.2.2⟩
  · exact ⟨e, HD h3.1, HN h3.2.1.2, HX h3.2.2⟩
  · exact ⟨e, HD h3.1, HX h3.2⟩
  · exact ⟨e, HD h3.1, HX h3.2⟩
  · exact ⟨e, HX h3⟩
  · have z1 := within_of ki.2
    have z2 := within_of kj.2
    exact ⟨e, HX h3, HC z1 z2 (ec (h12 rfl))⟩
  · exact ⟨e, HN h3⟩
  · exact ⟨e, HX h3⟩
  · exact e
  · have z1 := within_of ki
    have z2 := within_of kj
    exact ⟨e, HD h3.1, HN h3.2.1, HM h3.2.2.1, HC z1 z2 h3.2.2.2⟩
end Go.Proofs.YtkcgnmicaigjfaaDoor
