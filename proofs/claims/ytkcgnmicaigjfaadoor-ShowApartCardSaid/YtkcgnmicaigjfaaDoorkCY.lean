/- Words of instructions: what is read of a word is what was put there; no function of the program in sight. Shape by shape: what is read of an instruction's fields is the instruction, and the other way round; no function of the program in sight. -/
import Derived.Test.YtkcgnmicaigjfaaDoorkI3
import Derived.Test.YtkcgnmicaigjfaaDoorkCX
import Derived.Test.YtkcgnmicaigjfaaDoorkBZ
namespace Go.Proofs.YtkcgnmicaigjfaaDoor
set_option linter.unusedVariables false
set_option linter.unusedSimpArgs false
open Go.RowKit

def baL : List Nat := [0, 3531603968, 2457862144, 4068474880, 2432696320, 3506438144, 2969567232, 4043309056, 2449473536, 2986344448, 3523215360, 4060086272, 2332033024, 3405774848, 2868903936, 3942645760, 2315255808, 2852126720, 3388997632, 3925868544, 2600468480, 2600501248, 4181721088, 4177526784, 960495616, 956301312, 1476395008, 268435456, 2415919104, 335544320, 2483027968, 1409286144, 3019898880, 3036676096, 3592355840, 3594452992, 3596550144, 3556769793, 3573751839, 2592079872]
def loL : List Nat := [0, 8388607, 8388607, 8388607, 14680063, 14680063, 2064383, 4194303, 4194303, 16777215, 1627389951, 67108863, 16777199, 992, 2097120, 0, 2094079]
def baN (o : Int) : Nat := baL.getD o.toNat 0
def loN (s : Nat) : Nat := loL.getD s 0
def fw (w a n : Nat) : Int := ((w / 2 ^ a % 2 ^ n : Nat) : Int)
def fldS (s : Nat) (i : In) : List F3 := match s with
  | 1 => [(0, 5, i.d), (5, 16, i.imm), (21, 2, (i.amount.tdiv 16))]
  | 2 => [(0, 5, i.d), (5, 5, i.n), (10, 12, i.imm), (22, 1, (i.amount.tdiv 12))]
  | 3 => [(0, 5, i.d), (5, 5, i.n), (10, 6, (encS i.mask.toNat).2.2.1), (16, 6, (encS i.mask.toNat).2.1), (22, 1, (encS i.mask.toNat).1)]
  | 4 => [(0, 5, i.d), (5, 5, i.n), (10, 6, i.amount), (16, 5, i.m), (22, 2, i.shift)]
  | 5 => [(0, 5, i.d), (5, 5, i.n), (10, 6, i.amount), (16, 5, i.m), (22, 2, i.shift)]
  | 6 => [(0, 5, i.d), (5, 5, i.n), (10, 5, i.a), (16, 5, i.m)]
  | 7 => [(0, 5, i.d), (5, 5, i.n), (10, 12, (i.imm.tdiv 8))]
  | 8 => [(0, 5, i.d), (5, 5, i.n), (10, 12, i.imm)]
  | 9 => [(0, 5, i.d), (5, 19, (pck (i.imm.tdiv 4) 19).1)]
  | 10 => [(0, 5, i.d), (5, 19, ((pck i.imm 21).1 / 4)), (29, 2, ((pck i.imm 21).1 % 4))]
  | 11 => [(0, 26, (pck (i.imm.tdiv 4) 26).1)]
  | 12 => [(0, 4, i.cond), (5, 19, (pck (i.imm.tdiv 4) 19).1)]
  | 13 => [(5, 5, i.n)]
  | 14 => [(5, 16, i.imm)]
  | 15 => []
  | 16 => [(0, 5, i.d), (5, 5, i.n), (12, 4, i.cond), (16, 5, i.m)]
  | _ => []
def decW (o : Int) (s w : Nat) : In := match s with
  | 1 => ⟨o, (fw w 0 5), 0, 0, 0, (fw w 5 16), 0, 0, (16 * (fw w 21 2)), 0⟩
  | 2 => ⟨o, (fw w 0 5), (fw w 5 5), 0, 0, (fw w 10 12), 0, 0, (12 * (fw w 22 1)), 0⟩
  | 3 => ⟨o, (fw w 0 5), (fw w 5 5), 0, 0, 0, (decS (fw w 22 1) (fw w 16 6) (fw w 10 6)).1, 0, 0, 0⟩
  | 4 => ⟨o, (fw w 0 5), (fw w 5 5), (fw w 16 5), 0, 0, 0, (fw w 22 2), (fw w 10 6), 0⟩
  | 5 => ⟨o, (fw w 0 5), (fw w 5 5), (fw w 16 5), 0, 0, 0, (fw w 22 2), (fw w 10 6), 0⟩
  | 6 => ⟨o, (fw w 0 5), (fw w 5 5), (fw w 16 5), (fw w 10 5), 0, 0, 0, 0, 0⟩
  | 7 => ⟨o, (fw w 0 5), (fw w 5 5), 0, 0, (8 * (fw w 10 12)), 0, 0, 0, 0⟩
  | 8 => ⟨o, (fw w 0 5), (fw w 5 5), 0, 0, (fw w 10 12), 0, 0, 0, 0⟩
  | 9 => ⟨o, (fw w 0 5), 0, 0, 0, (4 * (sgn (fw w 5 19) 19).1), 0, 0, 0, 0⟩
  | 10 => ⟨o, (fw w 0 5), 0, 0, 0, (4 * (sgn (fw w 5 19) 19).1 + (fw w 29 2)), 0, 0, 0, 0⟩
  | 11 => ⟨o, 0, 0, 0, 0, (4 * (sgn (fw w 0 26) 26).1), 0, 0, 0, 0⟩
  | 12 => ⟨o, 0, 0, 0, 0, (4 * (sgn (fw w 5 19) 19).1), 0, 0, 0, (fw w 0 4)⟩
  | 13 => ⟨o, 0, (fw w 5 5), 0, 0, 0, 0, 0, 0, 0⟩
  | 14 => ⟨o, 0, 0, 0, 0, (fw w 5 16), 0, 0, 0, 0⟩
  | 15 => ⟨o, 0, 0, 0, 0, 0, 0, 0, 0, 0⟩
  | 16 => ⟨o, (fw w 0 5), (fw w 5 5), (fw w 16 5), 0, 0, 0, 0, 0, (fw w 12 4)⟩
  | _ => ⟨o, 0, 0, 0, 0, 0, 0, 0, 0, 0⟩
/-- The word of an instruction. -/
def encW (i : In) : Nat := (wordL (fldS (shapeI i.op).toNat i) (baN i.op)).1.toNat

def okF (l : List F3) : Prop := ∀ f ∈ l, 0 ≤ f.2.2 ∧ f.2.2 < 2 ^ f.2.1.toNat
theorem wordL_ok : ∀ (l : List F3) (t : Nat), okF l → ∃ d : Nat, wordL l t = ((d : Int), 0) := by
  intro l
  induction l with
  | nil => intro t _; exact ⟨t, rfl⟩
  | cons f r ih =>
    intro t h
    obtain ⟨d, hd⟩ := ih (t ||| f.2.2.toNat * 2 ^ f.1.toNat) (fun g hg => h g (List.mem_cons_of_mem _ hg))
    refine ⟨d, ?_⟩
    have := (h f (by simp)).2
    rw [wordL, if_neg (by omega), hd]
theorem wordL_or : ∀ (l : List F3) (t b : Nat) (d : Nat), wordL l t = ((d : Int), 0) → wordL l (b ||| t) = (((b ||| d : Nat) : Int), 0) := by
  intro l
  induction l with
  | nil => intro t b d h; simp only [wordL, Prod.mk.injEq, and_true] at h ⊢; have : t = d := by omega
           rw [this]
  | cons f r ih =>
    intro t b d h
    rw [wordL] at h ⊢
    by_cases c : 2 ^ f.2.1.toNat ≤ f.2.2
    · rw [if_pos c] at h; simp at h
    · rw [if_neg c] at h ⊢
      rw [Nat.or_assoc]
      exact ih _ _ _ h
theorem wordL_lt2 : ∀ (l : List F3) (t : Nat) (d : Nat), (∀ f ∈ l, rightB f.1 f.2.1 = true) → okF l → t < 4294967296 → wordL l t = ((d : Int), 0) → d < 4294967296 := by
  intro l
  induction l with
  | nil => intro t d _ _ ht h; simp only [wordL, Prod.mk.injEq, and_true] at h; omega
  | cons f r ih =>
    intro t d hr hk ht h
    have hf := hk f (by simp)
    have hrf := hr f (by simp)
    simp only [rightB, decide_eq_true_eq] at hrf
    rw [wordL, if_neg (by omega)] at h
    have hs := (shl_int f.2.2 f.1 f.2.1 hrf.1 hrf.2.2.1 hrf.2.2.2 hf.1 hf.2).2
    exact ih _ _ (fun g hg => hr g (List.mem_cons_of_mem _ hg)) (fun g hg => hk g (List.mem_cons_of_mem _ hg)) (Nat.or_lt_two_pow (n := 32) ht hs) h
/-- A word of fields over a base that has none of their bits: the fields read as they were put, the other bits as they were. -/
theorem enc_gen (l : List F3) (b t : Nat) (hk : okF l) (ha : apartL l t = true) (hb : b &&& t = b) (hb2 : b < 4294967296) :
    ∃ d : Nat, wordL l b = ((d : Int), 0) ∧ d < 4294967296 ∧ (∀ f ∈ l, d / 2 ^ f.1.toNat % 2 ^ f.2.1.toNat = f.2.2.toNat) ∧ d &&& t = b := by
  obtain ⟨d, hd⟩ := wordL_ok l b hk
  have hsub : ∀ j, b.testBit j = true → t.testBit j = true := by
    intro j hj
    rw [← hb, Nat.testBit_and, Bool.and_eq_true] at hj
    exact hj.2
  obtain ⟨d', hd', h1, h2⟩ := word_fields l b t (d : Int) (fun f hf => (hk f hf).1) ha hd hsub
  obtain rfl : d = d' := by omega
  refine ⟨d, hd, wordL_lt2 l b d (apartL_right l t ha) hk hb2 hd, h1, ?_⟩
  apply Nat.eq_of_testBit_eq
  intro j
  rw [Nat.testBit_and]
  cases hj : t.testBit j
  · rw [Bool.and_false]
    cases hb' : b.testBit j
    · rfl
    · rw [hsub j hb'] at hj; cases hj
  · rw [Bool.and_true]; exact h2 j hj
def orAll : List F3 → Nat
  | [] => 0
  | f :: r => bitsOf f ||| orAll r
theorem orAll_bit : ∀ (l : List F3) (j : Nat), (orAll l).testBit j = true → ∃ f ∈ l, (bitsOf f).testBit j = true := by
  intro l
  induction l with
  | nil => intro j h; simp [orAll] at h
  | cons f r ih =>
    intro j h
    rw [orAll, Nat.testBit_or, Bool.or_eq_true] at h
    rcases h with h | h
    · exact ⟨f, by simp, h⟩
    · obtain ⟨g, hg, h2⟩ := ih j h; exact ⟨g, List.mem_cons_of_mem _ hg, h2⟩
theorem word_ext (l : List F3) (t d w : Nat) (hr : ∀ f ∈ l, rightB f.1 f.2.1 = true) (hc : orAll l ||| t = 4294967295) (hd : d < 4294967296) (hw : w < 4294967296) (h1 : ∀ f ∈ l, d / 2 ^ f.1.toNat % 2 ^ f.2.1.toNat = w / 2 ^ f.1.toNat % 2 ^ f.2.1.toNat) (h2 : d &&& t = w &&& t) : d = w := by
  apply Nat.eq_of_testBit_eq
  intro j
  by_cases hj : j < 32
  · have hb : (orAll l ||| t).testBit j = true := by rw [hc, show (4294967295 : Nat) = 2 ^ 32 - 1 from rfl, Nat.testBit_two_pow_sub_one]; simpa using hj
    rw [Nat.testBit_or, Bool.or_eq_true] at hb
    rcases hb with hb | hb
    · obtain ⟨f, hf, hfb⟩ := orAll_bit l j hb
      have hrf := hr f hf
      simp only [rightB, decide_eq_true_eq] at hrf
      rw [bitsOf_bit f hrf.1 (by omega), Bool.and_eq_true, decide_eq_true_eq, decide_eq_true_eq] at hfb
      have e := congrArg (fun z => z.testBit (j - f.1.toNat)) (h1 f hf)
      simp only [Nat.testBit_mod_two_pow, Nat.testBit_div_two_pow] at e
      rw [show j - f.1.toNat + f.1.toNat = j from by omega, decide_eq_true (by omega), Bool.true_and, Bool.true_and] at e
      exact e
    · have e := congrArg (fun z => z.testBit j) h2
      simp only [Nat.testBit_and, hb, Bool.and_true] at e
      exact e
  · have hp : 4294967296 ≤ 2 ^ j := Nat.pow_le_pow_right (n := 2) (by decide) (show 32 ≤ j by omega)
    rw [Nat.testBit_lt_two_pow (Nat.lt_of_lt_of_le hd hp), Nat.testBit_lt_two_pow (Nat.lt_of_lt_of_le hw hp)]
/-- What stands in no field of a shape. -/
abbrev tight (s : Nat) : Nat := 4294967295 - loN s
set_option maxRecDepth 10000 in
theorem base_in : ∀ o : Fin 40, baN o.val &&& tight (shapeI o.val).toNat = baN o.val ∧ baN o.val < 4294967296 := by decide +kernel
set_option maxRecDepth 10000 in
theorem apart_ops : ∀ a b : Fin 40, a.val = 0 ∨ b.val = 0 ∨ a = b ∨ (baN a.val &&& tight (shapeI a.val).toNat &&& tight (shapeI b.val).toNat) ≠ (baN b.val &&& tight (shapeI a.val).toNat &&& tight (shapeI b.val).toNat) := by decide +kernel
/-- A word is of an operation. -/
def isOp (o : Nat) (w : Nat) : Bool := w &&& tight (shapeI o).toNat == baN o
theorem isOp_uniq {a b w : Nat} (ha : 1 ≤ a) (ha2 : a < 40) (hb : 1 ≤ b) (hb2 : b < 40) (h1 : isOp a w = true) (h2 : isOp b w = true) : a = b := by
  unfold isOp at h1 h2
  rw [beq_iff_eq] at h1 h2
  rcases apart_ops ⟨a, ha2⟩ ⟨b, hb2⟩ with h | h | h | h
  · simp only [] at h; omega
  · simp only [] at h; omega
  · exact Fin.mk.inj h
  · exfalso
    apply h
    simp only []
    have ia := (base_in ⟨a, ha2⟩).1
    have ib := (base_in ⟨b, hb2⟩).1
    simp only [] at ia ib
    rw [← h1, ← h2]
    apply Nat.eq_of_testBit_eq
    intro j
    simp only [Nat.testBit_and]
    cases w.testBit j <;> cases (tight (shapeI a).toNat).testBit j <;> cases (tight (shapeI b).toNat).testBit j <;> rfl

theorem fw_lt (w a n : Nat) : 0 ≤ fw w a n ∧ fw w a n < 2 ^ n := by
  unfold fw
  have h : w / 2 ^ a % 2 ^ n < 2 ^ n := Nat.mod_lt _ (Nat.two_pow_pos n)
  refine ⟨by omega, ?_⟩
  have := Int.ofNat_lt.2 h
  rwa [pow_cast] at this
theorem pck_in {v : Int} {n : Nat} (h1 : 1 ≤ n) (h2 : n ≤ 32) (c : - 2 ^ (n - 1) ≤ v) (d : v < 2 ^ (n - 1)) : pck v n = (v % 2 ^ n, 0) := by
  have := pck2 (v := v) (n := (n : Int)) (by omega) (by omega) (by simpa using c) (by simpa using d)
  simpa using this
theorem pck_b {v : Int} {n : Nat} (h1 : 1 ≤ n) (h2 : n ≤ 32) (c : - 2 ^ (n - 1) ≤ v) (d : v < 2 ^ (n - 1)) : 0 ≤ (pck v n).1 ∧ (pck v n).1 < 2 ^ n ∧ (sgn (pck v n).1 n).1 = v := by
  have e := pck_in h1 h2 c d
  have b := pck_back e
  rw [e]
  simp only []
  have hp : (0 : Int) < 2 ^ n := by have := pow_pos' n; omega
  exact ⟨Int.emod_nonneg _ (by omega), Int.emod_lt_of_pos _ hp, by rw [b.1]⟩
theorem sgn_b {v : Int} {n : Nat} (h1 : 1 ≤ n) (h2 : n ≤ 32) (c : 0 ≤ v) (d : v < 2 ^ n) : pck (sgn v n).1 n = (v, 0) ∧ (sgn v n) = ((sgn v n).1, 0) := by
  have e : sgn v n = ((sgn v n).1, 0) := by
    unfold sgn
    rw [if_neg (by omega), if_neg (by simp only [Int.toNat_natCast]; omega)]
    split <;> rfl
  exact ⟨(sgn_back c e).1, e⟩
theorem isI_of {i : In} {s : Nat} (h : isI i = true) (hs : shapeI i.op = s) : ownI s i = i ∧ regsI i = true ∧ numI s i = true := by
  unfold isI at h
  rw [hs] at h
  simp only [Bool.and_eq_true] at h
  refine ⟨?_, h.1.2, h.2⟩
  have := h.1.1.2
  unfold sameI at this
  simp only [Bool.and_eq_true, beq_iff_eq] at this
  obtain ⟨⟨⟨⟨⟨⟨⟨⟨⟨e0, e1⟩, e2⟩, e3⟩, e4⟩, e5⟩, e6⟩, e7⟩, e8⟩, e9⟩ := this
  cases i
  simp only [ownI, In.mk.injEq] at *
  exact ⟨trivial, e1.symm, e2.symm, e3.symm, e4.symm, e5.symm, e6.symm, e7.symm, e8.symm, e9.symm⟩

theorem facts1 {o d n m a x k h t c : Int} (hs : shapeI o = 1) (hI : isI ⟨o, d, n, m, a, x, k, h, t, c⟩ = true) : (n = 0 ∧ m = 0 ∧ a = 0 ∧ k = 0 ∧ h = 0 ∧ c = 0 ∧ 0 ≤ d ∧ d ≤ 31) ∧ (0 ≤ x ∧ x ≤ 65535 ∧ 0 ≤ t ∧ t ≤ 48 ∧ t.tmod 16 = 0) := by
  obtain ⟨h1, h2, h3⟩ := isI_of (s := 1) hI hs
  simp only [ownI, In.mk.injEq] at h1
  simp [pick, hasDb, hasNb, hasMb] at h1
  simp only [regsI, decide_eq_true_eq] at h2
  simp [numI, withinI, Bool.and_eq_true, decide_eq_true_eq] at h3
  grind

theorem facts2 {o d n m a x k h t c : Int} (hs : shapeI o = 2) (hI : isI ⟨o, d, n, m, a, x, k, h, t, c⟩ = true) : (m = 0 ∧ a = 0 ∧ k = 0 ∧ h = 0 ∧ c = 0 ∧ 0 ≤ d ∧ d ≤ 31 ∧ 0 ≤ n ∧ n ≤ 31) ∧ (0 ≤ x ∧ x ≤ 4095 ∧ 0 ≤ t ∧ t ≤ 12 ∧ t.tmod 12 = 0) := by
  obtain ⟨h1, h2, h3⟩ := isI_of (s := 2) hI hs
  simp only [ownI, In.mk.injEq] at h1
  simp [pick, hasDb, hasNb, hasMb] at h1
  simp only [regsI, decide_eq_true_eq] at h2
  simp [numI, withinI, Bool.and_eq_true, decide_eq_true_eq] at h3
  grind

theorem facts3 {o d n m a x k h t c : Int} (hs : shapeI o = 3) (hI : isI ⟨o, d, n, m, a, x, k, h, t, c⟩ = true) : (m = 0 ∧ a = 0 ∧ x = 0 ∧ h = 0 ∧ t = 0 ∧ c = 0 ∧ 0 ≤ d ∧ d ≤ 31 ∧ 0 ≤ n ∧ n ≤ 31) ∧ (isS k.toNat = true) := by
  obtain ⟨h1, h2, h3⟩ := isI_of (s := 3) hI hs
  simp only [ownI, In.mk.injEq] at h1
  simp [pick, hasDb, hasNb, hasMb] at h1
  simp only [regsI, decide_eq_true_eq] at h2
  simp [numI, withinI, Bool.and_eq_true, decide_eq_true_eq] at h3
  grind

theorem facts4 {o d n m a x k h t c : Int} (hs : shapeI o = 4) (hI : isI ⟨o, d, n, m, a, x, k, h, t, c⟩ = true) : (a = 0 ∧ x = 0 ∧ k = 0 ∧ c = 0 ∧ 0 ≤ d ∧ d ≤ 31 ∧ 0 ≤ n ∧ n ≤ 31 ∧ 0 ≤ m ∧ m ≤ 31) ∧ (0 ≤ h ∧ h ≤ 2 ∧ 0 ≤ t ∧ t ≤ 63) := by
  obtain ⟨h1, h2, h3⟩ := isI_of (s := 4) hI hs
  simp only [ownI, In.mk.injEq] at h1
  simp [pick, hasDb, hasNb, hasMb] at h1
  simp only [regsI, decide_eq_true_eq] at h2
  simp [numI, withinI, Bool.and_eq_true, decide_eq_true_eq] at h3
  grind

theorem facts5 {o d n m a x k h t c : Int} (hs : shapeI o = 5) (hI : isI ⟨o, d, n, m, a, x, k, h, t, c⟩ = true) : (a = 0 ∧ x = 0 ∧ k = 0 ∧ c = 0 ∧ 0 ≤ d ∧ d ≤ 31 ∧ 0 ≤ n ∧ n ≤ 31 ∧ 0 ≤ m ∧ m ≤ 31) ∧ (0 ≤ h ∧ h ≤ 3 ∧ 0 ≤ t ∧ t ≤ 63) := by
  obtain ⟨h1, h2, h3⟩ := isI_of (s := 5) hI hs
  simp only [ownI, In.mk.injEq] at h1
  simp [pick, hasDb, hasNb, hasMb] at h1
  simp only [regsI, decide_eq_true_eq] at h2
  simp [numI, withinI, Bool.and_eq_true, decide_eq_true_eq] at h3
  grind

theorem facts6 {o d n m a x k h t c : Int} (hs : shapeI o = 6) (hI : isI ⟨o, d, n, m, a, x, k, h, t, c⟩ = true) : (x = 0 ∧ k = 0 ∧ h = 0 ∧ t = 0 ∧ c = 0 ∧ 0 ≤ d ∧ d ≤ 31 ∧ 0 ≤ n ∧ n ≤ 31 ∧ 0 ≤ m ∧ m ≤ 31 ∧ 0 ≤ a ∧ a ≤ 31) ∧ (True) := by
  obtain ⟨h1, h2, h3⟩ := isI_of (s := 6) hI hs
  simp only [ownI, In.mk.injEq] at h1
  simp [pick, hasDb, hasNb, hasMb] at h1
  simp only [regsI, decide_eq_true_eq] at h2
  simp [numI, withinI, Bool.and_eq_true, decide_eq_true_eq] at h3
  grind

theorem facts7 {o d n m a x k h t c : Int} (hs : shapeI o = 7) (hI : isI ⟨o, d, n, m, a, x, k, h, t, c⟩ = true) : (m = 0 ∧ a = 0 ∧ k = 0 ∧ h = 0 ∧ t = 0 ∧ c = 0 ∧ 0 ≤ d ∧ d ≤ 31 ∧ 0 ≤ n ∧ n ≤ 31) ∧ (0 ≤ x ∧ x ≤ 32760 ∧ x.tmod 8 = 0) := by
  obtain ⟨h1, h2, h3⟩ := isI_of (s := 7) hI hs
  simp only [ownI, In.mk.injEq] at h1
  simp [pick, hasDb, hasNb, hasMb] at h1
  simp only [regsI, decide_eq_true_eq] at h2
  simp [numI, withinI, Bool.and_eq_true, decide_eq_true_eq] at h3
  grind

theorem facts8 {o d n m a x k h t c : Int} (hs : shapeI o = 8) (hI : isI ⟨o, d, n, m, a, x, k, h, t, c⟩ = true) : (m = 0 ∧ a = 0 ∧ k = 0 ∧ h = 0 ∧ t = 0 ∧ c = 0 ∧ 0 ≤ d ∧ d ≤ 31 ∧ 0 ≤ n ∧ n ≤ 31) ∧ (0 ≤ x ∧ x ≤ 4095) := by
  obtain ⟨h1, h2, h3⟩ := isI_of (s := 8) hI hs
  simp only [ownI, In.mk.injEq] at h1
  simp [pick, hasDb, hasNb, hasMb] at h1
  simp only [regsI, decide_eq_true_eq] at h2
  simp [numI, withinI, Bool.and_eq_true, decide_eq_true_eq] at h3
  grind

theorem facts9 {o d n m a x k h t c : Int} (hs : shapeI o = 9) (hI : isI ⟨o, d, n, m, a, x, k, h, t, c⟩ = true) : (n = 0 ∧ m = 0 ∧ a = 0 ∧ k = 0 ∧ h = 0 ∧ t = 0 ∧ c = 0 ∧ 0 ≤ d ∧ d ≤ 31) ∧ (-1048576 ≤ x ∧ x ≤ 1048572 ∧ x.tmod 4 = 0) := by
  obtain ⟨h1, h2, h3⟩ := isI_of (s := 9) hI hs
  simp only [ownI, In.mk.injEq] at h1
  simp [pick, hasDb, hasNb, hasMb] at h1
  simp only [regsI, decide_eq_true_eq] at h2
  simp [numI, withinI, Bool.and_eq_true, decide_eq_true_eq] at h3
  grind

theorem facts10 {o d n m a x k h t c : Int} (hs : shapeI o = 10) (hI : isI ⟨o, d, n, m, a, x, k, h, t, c⟩ = true) : (n = 0 ∧ m = 0 ∧ a = 0 ∧ k = 0 ∧ h = 0 ∧ t = 0 ∧ c = 0 ∧ 0 ≤ d ∧ d ≤ 31) ∧ (-1048576 ≤ x ∧ x ≤ 1048575) := by
  obtain ⟨h1, h2, h3⟩ := isI_of (s := 10) hI hs
  simp only [ownI, In.mk.injEq] at h1
  simp [pick, hasDb, hasNb, hasMb] at h1
  simp only [regsI, decide_eq_true_eq] at h2
  simp [numI, withinI, Bool.and_eq_true, decide_eq_true_eq] at h3
  grind

theorem facts11 {o d n m a x k h t c : Int} (hs : shapeI o = 11) (hI : isI ⟨o, d, n, m, a, x, k, h, t, c⟩ = true) : (d = 0 ∧ n = 0 ∧ m = 0 ∧ a = 0 ∧ k = 0 ∧ h = 0 ∧ t = 0 ∧ c = 0) ∧ (-134217728 ≤ x ∧ x ≤ 134217724 ∧ x.tmod 4 = 0) := by
  obtain ⟨h1, h2, h3⟩ := isI_of (s := 11) hI hs
  simp only [ownI, In.mk.injEq] at h1
  simp [pick, hasDb, hasNb, hasMb] at h1
  simp only [regsI, decide_eq_true_eq] at h2
  simp [numI, withinI, Bool.and_eq_true, decide_eq_true_eq] at h3
  grind

theorem facts12 {o d n m a x k h t c : Int} (hs : shapeI o = 12) (hI : isI ⟨o, d, n, m, a, x, k, h, t, c⟩ = true) : (d = 0 ∧ n = 0 ∧ m = 0 ∧ a = 0 ∧ k = 0 ∧ h = 0 ∧ t = 0) ∧ (-1048576 ≤ x ∧ x ≤ 1048572 ∧ x.tmod 4 = 0 ∧ 0 ≤ c ∧ c ≤ 13) := by
  obtain ⟨h1, h2, h3⟩ := isI_of (s := 12) hI hs
  simp only [ownI, In.mk.injEq] at h1
  simp [pick, hasDb, hasNb, hasMb] at h1
  simp only [regsI, decide_eq_true_eq] at h2
  simp [numI, withinI, Bool.and_eq_true, decide_eq_true_eq] at h3
  grind

theorem facts13 {o d n m a x k h t c : Int} (hs : shapeI o = 13) (hI : isI ⟨o, d, n, m, a, x, k, h, t, c⟩ = true) : (d = 0 ∧ m = 0 ∧ a = 0 ∧ x = 0 ∧ k = 0 ∧ h = 0 ∧ t = 0 ∧ c = 0 ∧ 0 ≤ n ∧ n ≤ 31) ∧ (True) := by
  obtain ⟨h1, h2, h3⟩ := isI_of (s := 13) hI hs
  simp only [ownI, In.mk.injEq] at h1
  simp [pick, hasDb, hasNb, hasMb] at h1
  simp only [regsI, decide_eq_true_eq] at h2
  simp [numI, withinI, Bool.and_eq_true, decide_eq_true_eq] at h3
  grind

theorem facts14 {o d n m a x k h t c : Int} (hs : shapeI o = 14) (hI : isI ⟨o, d, n, m, a, x, k, h, t, c⟩ = true) : (d = 0 ∧ n = 0 ∧ m = 0 ∧ a = 0 ∧ k = 0 ∧ h = 0 ∧ t = 0 ∧ c = 0) ∧ (0 ≤ x ∧ x ≤ 65535) := by
  obtain ⟨h1, h2, h3⟩ := isI_of (s := 14) hI hs
  simp only [ownI, In.mk.injEq] at h1
  simp [pick, hasDb, hasNb, hasMb] at h1
  simp only [regsI, decide_eq_true_eq] at h2
  simp [numI, withinI, Bool.and_eq_true, decide_eq_true_eq] at h3
  grind

theorem facts15 {o d n m a x k h t c : Int} (hs : shapeI o = 15) (hI : isI ⟨o, d, n, m, a, x, k, h, t, c⟩ = true) : (d = 0 ∧ n = 0 ∧ m = 0 ∧ a = 0 ∧ x = 0 ∧ k = 0 ∧ h = 0 ∧ t = 0 ∧ c = 0) ∧ (True) := by
  obtain ⟨h1, h2, h3⟩ := isI_of (s := 15) hI hs
  simp only [ownI, In.mk.injEq] at h1
  simp [pick, hasDb, hasNb, hasMb] at h1
  simp only [regsI, decide_eq_true_eq] at h2
  simp [numI, withinI, Bool.and_eq_true, decide_eq_true_eq] at h3
  grind

theorem facts16 {o d n m a x k h t c : Int} (hs : shapeI o = 16) (hI : isI ⟨o, d, n, m, a, x, k, h, t, c⟩ = true) : (a = 0 ∧ x = 0 ∧ k = 0 ∧ h = 0 ∧ t = 0 ∧ 0 ≤ d ∧ d ≤ 31 ∧ 0 ≤ n ∧ n ≤ 31 ∧ 0 ≤ m ∧ m ≤ 31) ∧ (0 ≤ c ∧ c ≤ 13) := by
  obtain ⟨h1, h2, h3⟩ := isI_of (s := 16) hI hs
  simp only [ownI, In.mk.injEq] at h1
  simp [pick, hasDb, hasNb, hasMb] at h1
  simp only [regsI, decide_eq_true_eq] at h2
  simp [numI, withinI, Bool.and_eq_true, decide_eq_true_eq] at h3
  grind
end Go.Proofs.YtkcgnmicaigjfaaDoor
