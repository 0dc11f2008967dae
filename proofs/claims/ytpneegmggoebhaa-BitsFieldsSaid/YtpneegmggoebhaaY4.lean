/- BitsBack returns true, for every input; and what bits.Field answers. -/
import Derived.Test.YtpneegmggoebhaaY2
namespace Go.Proofs.Ytpneegmggoebhaa
open Go.RowKit
set_option linter.unusedVariables false

theorem bitsOf_bit (f : F3) (h1 : 0 ≤ f.1) (h2 : 0 ≤ f.2.1) (j : Nat) : (bitsOf f).testBit j = (decide (f.1.toNat ≤ j) && decide (j < f.1.toNat + f.2.1.toNat)) := by
  unfold bitsOf
  rw [Nat.mul_comm, Nat.testBit_two_pow_mul, Nat.testBit_two_pow_sub_one]
  by_cases c : f.1.toNat ≤ j
  · have e : (j - f.1.toNat < f.2.1.toNat) = (j < f.1.toNat + f.2.1.toNat) := by simp only [eq_iff_iff]; omega
    simp [c, e]
  · simp [c]
theorem and_zero_bit {a b : Nat} (h : a &&& b = 0) (j : Nat) (hb : b.testBit j = true) : a.testBit j = false := by
  have : (a &&& b).testBit j = false := by rw [h]; simp
  rw [Nat.testBit_and, hb] at this
  simpa using this
theorem word_fields : ∀ (l : List F3) (t t' : Nat) (c : Int), (∀ f ∈ l, 0 ≤ f.2.2) → apartL l t' = true → wordL l t = (c, 0) → (∀ j, t.testBit j = true → t'.testBit j = true) →
    ∃ d : Nat, c = d ∧ (∀ f ∈ l, d / 2 ^ f.1.toNat % 2 ^ f.2.1.toNat = f.2.2.toNat) ∧ ∀ j, t'.testBit j = true → d.testBit j = t.testBit j := by
  intro l
  induction l with
  | nil =>
    intro t t' c _ _ h _
    simp only [wordL, Prod.mk.injEq, and_true] at h
    exact ⟨t, h.symm, by simp, fun _ _ => rfl⟩
  | cons f r ih =>
    intro t t' c hv ha hw ht
    rw [apartL] at ha
    by_cases c1 : rightB f.1 f.2.1 = false
    · rw [if_pos c1] at ha; cases ha
    rw [if_neg c1] at ha
    by_cases c2 : t' &&& bitsOf f ≠ 0
    · rw [if_pos c2] at ha; cases ha
    rw [if_neg c2] at ha
    rw [wordL] at hw
    by_cases c3 : 2 ^ f.2.1.toNat ≤ f.2.2
    · rw [if_pos c3] at hw; simp at hw
    rw [if_neg c3] at hw
    have hr : 0 ≤ f.1 ∧ f.1 < 32 ∧ 1 ≤ f.2.1 ∧ f.2.1 ≤ 32 - f.1 := by simpa [rightB] using c1
    have hvf := hv f (by simp)
    have hV : f.2.2.toNat < 2 ^ f.2.1.toNat := by rw [← pow_cast] at c3; omega
    have hb := bitsOf_bit f hr.1 (by omega)
    have hV2 : ∀ j, (f.2.2.toNat * 2 ^ f.1.toNat).testBit j = (decide (f.1.toNat ≤ j) && f.2.2.toNat.testBit (j - f.1.toNat)) := by
      intro j; rw [Nat.mul_comm, Nat.testBit_two_pow_mul]
    have hVn : ∀ i, f.2.1.toNat ≤ i → f.2.2.toNat.testBit i = false := fun i hi => Nat.testBit_lt_two_pow (Nat.lt_of_lt_of_le hV (Nat.pow_le_pow_right (by decide) hi))
    obtain ⟨d, hd, h1, h2⟩ := ih (t ||| f.2.2.toNat * 2 ^ f.1.toNat) (t' ||| bitsOf f) c (fun g hg => hv g (List.mem_cons_of_mem _ hg)) ha hw (by
      intro j hj
      rw [Nat.testBit_or, Bool.or_eq_true] at hj ⊢
      rcases hj with hj | hj
      · exact .inl (ht j hj)
      · right
        rw [hV2] at hj
        simp only [Bool.and_eq_true, decide_eq_true_eq] at hj
        rw [hb]
        by_cases c : j < f.1.toNat + f.2.1.toNat
        · simp [hj.1, c]
        · rw [hVn _ (by omega)] at hj; simp at hj)
    have hc2 : t' &&& bitsOf f = 0 := by simpa using c2
    refine ⟨d, hd, ?_, ?_⟩
    · intro g hg
      rcases List.mem_cons.1 hg with rfl | hg
      · apply Nat.eq_of_testBit_eq
        intro i
        rw [Nat.testBit_mod_two_pow, Nat.testBit_div_two_pow]
        by_cases hi : i < g.2.1.toNat
        · have hbi : (bitsOf g).testBit (i + g.1.toNat) = true := by rw [hb]; simp; omega
          have e := h2 (i + g.1.toNat) (by rw [Nat.testBit_or, hbi]; simp)
          have ht' := and_zero_bit hc2 _ hbi
          have htf : t.testBit (i + g.1.toNat) = false := by
            cases hx : t.testBit (i + g.1.toNat)
            · rfl
            · have := ht _ hx; rw [ht'] at this; cases this
          rw [e, Nat.testBit_or, htf, hV2]
          simp [hi]
        · rw [hVn i (by omega)]; simp [hi]
      · exact h1 g hg
    · intro j hj
      have e := h2 j (by rw [Nat.testBit_or, hj]; simp)
      rw [e, Nat.testBit_or, hV2]
      by_cases c : f.1.toNat ≤ j ∧ j < f.1.toNat + f.2.1.toNat
      · have := and_zero_bit hc2 j (by rw [hb]; simp [c.1, c.2]); rw [this] at hj; cases hj
      · by_cases c' : f.1.toNat ≤ j
        · rw [hVn _ (by omega)]; simp
        · simp [c']

def RetD (v : Value) (w : World) (e : Ending) (w' : World) : Prop := e = .returned v ∧ ∃ n, w' = w.drewN n
theorem retD_two {k l : IntKind} {a b : Int} {p : Int × Int} {w : World} (h : p = (a, b)) (n : Nat) : RetD (two k l p) w (.returned (.tuple #[.int k a, .int l b])) (w.drewN n) := by subst h; exact ⟨rfl, n, rfl⟩
def fieldS (v a n : Int) : Int × Int := if rightB a n = false then (0, 1) else (v / 2 ^ a.toNat % 2 ^ n.toNat, 0)
set_option maxHeartbeats 400000 in
theorem field_any (v a n : Int) (w : World) (h0 : 0 ≤ v) (h1 : v < 4294967296) :
    Calls Try.prog 10 #[.int .u32 v, .int .i64 a, .int .i64 n] w (RetD (two .u32 .i64 (fieldS v a n)) w) := by
  by_cases h : 0 ≤ a ∧ a < 32 ∧ 1 ≤ n ∧ n ≤ 32 - a
  · have hr : decide (0 ≤ a ∧ a < 32 ∧ 1 ≤ n ∧ n ≤ 32 - a) = true := by simpa using h
    obtain ⟨r1, r2, r3, r4⟩ := h
    have hp := pow32 a (by omega)
    have hq0 : 0 ≤ v / 2 ^ a.toNat := Int.ediv_nonneg h0 (by omega)
    have hq1 : v / 2 ^ a.toNat ≤ v := Int.ediv_le_self _ h0
    have ha := and_ones32 (v / 2 ^ a.toNat) n hq0 (by omega) (by omega) (by omega)
    have hf : fieldS v a n = (v / 2 ^ a.toNat % 2 ^ n.toNat, 0) := by unfold fieldS rightB; rw [hr]; rfl
    have HF := Lib.hid hf
    clear hf
    go_enter Try.func10, Try.ntmps10
    go_wp2_with (first | (go_at_call 24; refine (right_any _ _ _).mono ?_; rintro e w' ⟨rfl, rfl⟩) | (go_at_call 25; refine (ones_any _ _ (by omega) (by omega)).mono ?_; rintro e w' ⟨rfl, rfl⟩))
    go_quiet ((go_at_call 25; exact Calls.quiet_of_same ((ones_any _ _ (by omega) (by omega)).mono fun e w' h => ⟨h.1, h.2.symm⟩)))
    go_wp2
    go_ret2
    exact retD_two HF.out _
  · have hr : decide (0 ≤ a ∧ a < 32 ∧ 1 ≤ n ∧ n ≤ 32 - a) = false := by simpa using h
    have hf : fieldS v a n = (0, 1) := by unfold fieldS rightB; rw [hr]; rfl
    have HF := Lib.hid hf
    clear hf h
    go_enter Try.func10, Try.ntmps10
    go_wp2_with (first | (go_at_call 24; refine (right_any _ _ _).mono ?_; rintro e w' ⟨rfl, rfl⟩))
    go_ret2
    exact retD_two HF.out 0
theorem field_eq (v a n : Int) (w : World) (x e : Int) (h : 0 ≤ v ∧ v < 4294967296) (he : fieldS v a n = (x, e)) :
    Calls Try.prog 10 #[.int .u32 v, .int .i64 a, .int .i64 n] w (RetD (.tuple #[.int .u32 x, .int .i64 e]) w) := by
  have := field_any v a n w h.1 h.2
  rwa [he] at this
theorem fieldS_ok {v a n : Int} (h : 0 ≤ a ∧ a < 32 ∧ 1 ≤ n ∧ n ≤ 32 - a) : fieldS v a n = (v / 2 ^ a.toNat % 2 ^ n.toNat, 0) := by
  have hr : rightB a n = true := by simpa [rightB] using h
  unfold fieldS; rw [if_neg (by simp [hr])]

theorem three_word (w a n : Nat) (ha : 1 ≤ a) (ha2 : a ≤ 30) (hn : 1 ≤ n) (hn2 : n ≤ 31 - a) (hw : w < 2 ^ 32) :
    wordS [(0, (a : Int), ((w % 2 ^ a : Nat) : Int)), ((a : Int), (n : Int), ((w / 2 ^ a % 2 ^ n : Nat) : Int)), (((a + n : Nat) : Int), ((32 - a - n : Nat) : Int), ((w / 2 ^ (a + n) % 2 ^ (32 - a - n) : Nat) : Int))] = ((w : Int), 0) := by
  have b0 := bitsOf_bit (0, (a : Int), ((w % 2 ^ a : Nat) : Int)) (by simp) (by simp)
  have b1 := bitsOf_bit ((a : Int), (n : Int), ((w / 2 ^ a % 2 ^ n : Nat) : Int)) (by simp) (by simp)
  have b2 := bitsOf_bit (((a + n : Nat) : Int), ((32 - a - n : Nat) : Int), ((w / 2 ^ (a + n) % 2 ^ (32 - a - n) : Nat) : Int)) (by simp only []; omega) (by simp)
  simp only [Int.toNat_natCast, Int.toNat_zero] at b0 b1 b2
  have r0 : rightB 0 (a : Int) = true := by simp [rightB]; omega
  have r1 : rightB (a : Int) (n : Int) = true := by simp [rightB]; omega
  have r2 : rightB ((a + n : Nat) : Int) ((32 - a - n : Nat) : Int) = true := by simp only [rightB, decide_eq_true_eq]; omega
  have hap : apartL [(0, (a : Int), ((w % 2 ^ a : Nat) : Int)), ((a : Int), (n : Int), ((w / 2 ^ a % 2 ^ n : Nat) : Int)), (((a + n : Nat) : Int), ((32 - a - n : Nat) : Int), ((w / 2 ^ (a + n) % 2 ^ (32 - a - n) : Nat) : Int))] 0 = true := by
    rw [apartL, if_neg (by simp only [r0]; decide), if_neg (by simp), apartL, if_neg (by simp only [r1]; decide), if_neg, apartL, if_neg (by simp only [r2]; decide), if_neg, apartL]
    · simp only [ne_eq, Classical.not_not]
      apply Nat.eq_of_testBit_eq
      intro j
      rw [Nat.testBit_and, Nat.testBit_or, Nat.testBit_or, b0, b1, b2]
      simp
      omega
    · simp only [ne_eq, Classical.not_not]
      apply Nat.eq_of_testBit_eq
      intro j
      rw [Nat.testBit_and, Nat.testBit_or, b0, b1]
      simp
      omega
  have v0 : w % 2 ^ a < 2 ^ a := Nat.mod_lt _ (Nat.two_pow_pos _)
  have v1 : w / 2 ^ a % 2 ^ n < 2 ^ n := Nat.mod_lt _ (Nat.two_pow_pos _)
  have v2 : w / 2 ^ (a + n) % 2 ^ (32 - a - n) < 2 ^ (32 - a - n) := Nat.mod_lt _ (Nat.two_pow_pos _)
  unfold wordS
  rw [if_neg (by rw [hap]; simp)]
  rw [wordL, if_neg (by simp only [Int.toNat_natCast]; rw [← pow_cast]; omega), wordL, if_neg (by simp only [Int.toNat_natCast]; rw [← pow_cast]; omega), wordL, if_neg (by simp only [Int.toNat_natCast]; rw [← pow_cast]; omega), wordL]
  simp only [Int.toNat_natCast, Int.toNat_zero]
  congr 2
  apply Nat.eq_of_testBit_eq
  intro j
  rw [Nat.testBit_or, Nat.testBit_or, Nat.testBit_or, Nat.mul_comm _ (2 ^ 0), Nat.mul_comm _ (2 ^ a), Nat.mul_comm _ (2 ^ (a + n)), Nat.testBit_two_pow_mul, Nat.testBit_two_pow_mul, Nat.testBit_two_pow_mul,
    Nat.testBit_mod_two_pow, Nat.testBit_mod_two_pow, Nat.testBit_mod_two_pow, Nat.testBit_div_two_pow, Nat.testBit_div_two_pow]
  by_cases c0 : j < a
  · have : ¬ a ≤ j := by omega
    have : ¬ a + n ≤ j := by omega
    simp [*]
  · by_cases c1 : j < a + n
    · have e1 : a ≤ j := by omega
      have e2 : ¬ a + n ≤ j := by omega
      have e3 : j - a < n := by omega
      have e4 : j - a + a = j := by omega
      simp [*]
    · have e1 : a ≤ j := by omega
      have e2 : a + n ≤ j := by omega
      have e3 : ¬ j - a < n := by omega
      have e4 : j - (a + n) + (a + n) = j := by omega
      by_cases c2 : j < 32
      · have e5 : j - (a + n) < 32 - a - n := by omega
        simp [*]
      · have e5 : ¬ j - (a + n) < 32 - a - n := by omega
        have := Nat.testBit_lt_two_pow (x := w) (i := j) (Nat.lt_of_lt_of_le hw (Nat.pow_le_pow_right (by decide) (by omega)))
        simp [*]
end Go.Proofs.Ytpneegmggoebhaa
