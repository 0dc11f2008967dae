/- Fields and words, signs: plain arithmetic; no function of the program in sight. What the functions of bits answer (fields, signs), on top of the masks' texts. What bits.Word and bits.Field answer, on top of the masks' texts. -/
import Derived.Test.YtkcgnmicaigjfaaDoorM0
import Derived.WalkSpells
import Derived.Test.YtkcgnmicaigjfaaDoorkBX
import Derived.Test.YtkcgnmicaigjfaaDoorkRK
import Derived.Deep.QuietTactic
import Derived.BigQuiet
namespace Go.Proofs.YtkcgnmicaigjfaaDoor
set_option linter.unusedVariables false
set_option linter.unusedSimpArgs false
open Go.RowKit

abbrev F3 := Int × Int × Int
def rightB (a n : Int) : Bool := decide (0 ≤ a ∧ a < 32 ∧ 1 ≤ n ∧ n ≤ 32 - a)
def bitsOf (f : F3) : Nat := (2 ^ f.2.1.toNat - 1) * 2 ^ f.1.toNat
def apartL : List F3 → Nat → Bool
  | [], _ => true
  | f :: r, t => if rightB f.1 f.2.1 = false then false else if t &&& bitsOf f ≠ 0 then false else apartL r (t ||| bitsOf f)

theorem bitsOf_int (f : F3) (h1 : 0 ≤ f.1) (h2 : 0 ≤ f.2.1) (h3 : f.2.1 ≤ 32 - f.1) :
    ((2 : Int) ^ f.2.1.toNat - 1) * 2 ^ f.1.toNat % 4294967296 = (bitsOf f : Nat) ∧ bitsOf f < 4294967296 := by
  have e1 : 2 ^ f.2.1.toNat ≥ 1 := Nat.one_le_two_pow
  have e2 : 2 ^ f.1.toNat ≥ 1 := Nat.one_le_two_pow
  have h : bitsOf f < 4294967296 := by
    have h3 : 2 ^ f.2.1.toNat * 2 ^ f.1.toNat ≤ 2 ^ 32 := by rw [← Nat.pow_add]; exact Nat.pow_le_pow_right (by decide) (by omega)
    unfold bitsOf
    rw [Nat.sub_one_mul]; omega
  refine ⟨?_, h⟩
  have e : ((2 : Int) ^ f.2.1.toNat - 1) * 2 ^ f.1.toNat = (bitsOf f : Nat) := by
    unfold bitsOf
    rw [Int.natCast_mul, Int.ofNat_sub e1, pow_cast, pow_cast]; rfl
  rw [e]; omega

def wordL : List F3 → Nat → Int × Int
  | [], t => (t, 0)
  | f :: r, t => if 2 ^ f.2.1.toNat ≤ f.2.2 then (0, 4) else wordL r (t ||| f.2.2.toNat * 2 ^ f.1.toNat)
def wordS (l : List F3) : Int × Int := if apartL l 0 = false then (0, 1) else wordL l 0

theorem apartL_right : ∀ (l : List F3) (t : Nat), apartL l t = true → ∀ f ∈ l, rightB f.1 f.2.1 = true := by
  intro l
  induction l with
  | nil => intro t _ f hf; cases hf
  | cons g r ih =>
    intro t h f hf
    rw [apartL] at h
    by_cases c : rightB g.1 g.2.1 = false
    · rw [if_pos c] at h; cases h
    · rw [if_neg c] at h
      by_cases d : t &&& bitsOf g ≠ 0
      · rw [if_pos d] at h; cases h
      · rw [if_neg d] at h
        rcases List.mem_cons.1 hf with rfl | hf
        · simpa using c
        · exact ih _ h f hf
theorem shl_int (V A N : Int) (h1 : 0 ≤ A) (h2 : 1 ≤ N) (h3 : N ≤ 32 - A) (v0 : 0 ≤ V) (hv : V < 2 ^ N.toNat) :
    V * 2 ^ A.toNat % 4294967296 = ((V.toNat * 2 ^ A.toNat : Nat) : Int) ∧ V.toNat * 2 ^ A.toNat < 4294967296 := by
  obtain ⟨v, rfl⟩ := Int.eq_ofNat_of_zero_le v0
  have hv' : v < 2 ^ N.toNat := by rw [← pow_cast] at hv; omega
  have e2 : 2 ^ A.toNat ≥ 1 := Nat.one_le_two_pow
  have h : v * 2 ^ A.toNat < 4294967296 := by
    have h3 : 2 ^ N.toNat * 2 ^ A.toNat ≤ 2 ^ 32 := by rw [← Nat.pow_add]; exact Nat.pow_le_pow_right (by decide) (by omega)
    have h4 : v * 2 ^ A.toNat < 2 ^ N.toNat * 2 ^ A.toNat := Nat.mul_lt_mul_of_pos_right hv' (by omega)
    omega
  refine ⟨?_, by simpa using h⟩
  rw [Int.toNat_natCast, ← pow_cast, ← Int.natCast_mul]; omega

def fieldS (v a n : Int) : Int × Int := if rightB a n = false then (0, 1) else (v / 2 ^ a.toNat % 2 ^ n.toNat, 0)
theorem fieldS_ok {v a n : Int} (h : 0 ≤ a ∧ a < 32 ∧ 1 ≤ n ∧ n ≤ 32 - a) : fieldS v a n = (v / 2 ^ a.toNat % 2 ^ n.toNat, 0) := by
  have hr : rightB a n = true := by simpa [rightB] using h
  unfold fieldS; rw [if_neg (by simp [hr])]

theorem bitsOf_bit (f : F3) (h1 : 0 ≤ f.1) (h2 : 0 ≤ f.2.1) (j : Nat) : (bitsOf f).testBit j = (decide (f.1.toNat ≤ j) && decide (j < f.1.toNat + f.2.1.toNat)) := by
  unfold bitsOf
  rw [Nat.mul_comm, Nat.testBit_two_pow_mul, Nat.testBit_two_pow_sub_one]
  by_cases c : f.1.toNat ≤ j
  · have e : (j - f.1.toNat < f.2.1.toNat) = (j < f.1.toNat + f.2.1.toNat) := by simp only [eq_iff_iff]; omega
    simp [c, e]
  · simp [c]
theorem and_zero_bit {a b : Nat} (h : a &&& b = 0) (j : Nat) (hb : b.testBit j = true) : a.testBit j = false := by
  have : (a &&& b).testBit j = false := by rw [h]; simp
  rw [Nat.testBit_and, hb] at this
  simpa using this
theorem word_fields : ∀ (l : List F3) (t t' : Nat) (c : Int), (∀ f ∈ l, 0 ≤ f.2.2) → apartL l t' = true → wordL l t = (c, 0) → (∀ j, t.testBit j = true → t'.testBit j = true) →
    ∃ d : Nat, c = d ∧ (∀ f ∈ l, d / 2 ^ f.1.toNat % 2 ^ f.2.1.toNat = f.2.2.toNat) ∧ ∀ j, t'.testBit j = true → d.testBit j = t.testBit j := by
  intro l
  induction l with
  | nil =>
    intro t t' c _ _ h _
    simp only [wordL, Prod.mk.injEq, and_true] at h
    exact ⟨t, h.symm, by simp, fun _ _ => rfl⟩
  | cons f r ih =>
    intro t t' c hv ha hw ht
    rw [apartL] at ha
    by_cases c1 : rightB f.1 f.2.1 = false
    · rw [if_pos c1] at ha; cases ha
    rw [if_neg c1] at ha
    by_cases c2 : t' &&& bitsOf f ≠ 0
    · rw [if_pos c2] at ha; cases ha
    rw [if_neg c2] at ha
    rw [wordL] at hw
    by_cases c3 : 2 ^ f.2.1.toNat ≤ f.2.2
    · rw [if_pos c3] at hw; simp at hw
    rw [if_neg c3] at hw
    have hr : 0 ≤ f.1 ∧ f.1 < 32 ∧ 1 ≤ f.2.1 ∧ f.2.1 ≤ 32 - f.1 := by simpa [rightB] using c1
    have hvf := hv f (by simp)
    have hV : f.2.2.toNat < 2 ^ f.2.1.toNat := by rw [← pow_cast] at c3; omega
    have hb := bitsOf_bit f hr.1 (by omega)
    have hV2 : ∀ j, (f.2.2.toNat * 2 ^ f.1.toNat).testBit j = (decide (f.1.toNat ≤ j) && f.2.2.toNat.testBit (j - f.1.toNat)) := by
      intro j; rw [Nat.mul_comm, Nat.testBit_two_pow_mul]
    have hVn : ∀ i, f.2.1.toNat ≤ i → f.2.2.toNat.testBit i = false := fun i hi => Nat.testBit_lt_two_pow (Nat.lt_of_lt_of_le hV (Nat.pow_le_pow_right (by decide) hi))
    obtain ⟨d, hd, h1, h2⟩ := ih (t ||| f.2.2.toNat * 2 ^ f.1.toNat) (t' ||| bitsOf f) c (fun g hg => hv g (List.mem_cons_of_mem _ hg)) ha hw (by
      intro j hj
      rw [Nat.testBit_or, Bool.or_eq_true] at hj ⊢
      rcases hj with hj | hj
      · exact .inl (ht j hj)
      · right
        rw [hV2] at hj
        simp only [Bool.and_eq_true, decide_eq_true_eq] at hj
        rw [hb]
        by_cases c : j < f.1.toNat + f.2.1.toNat
        · simp [hj.1, c]
        · rw [hVn _ (by omega)] at hj; simp at hj)
    have hc2 : t' &&& bitsOf f = 0 := by simpa using c2
    refine ⟨d, hd, ?_, ?_⟩
    · intro g hg
      rcases List.mem_cons.1 hg with rfl | hg
      · apply Nat.eq_of_testBit_eq
        intro i
        rw [Nat.testBit_mod_two_pow, Nat.testBit_div_two_pow]
        by_cases hi : i < g.2.1.toNat
        · have hbi : (bitsOf g).testBit (i + g.1.toNat) = true := by rw [hb]; simp; omega
          have e := h2 (i + g.1.toNat) (by rw [Nat.testBit_or, hbi]; simp)
          have ht' := and_zero_bit hc2 _ hbi
          have htf : t.testBit (i + g.1.toNat) = false := by
            cases hx : t.testBit (i + g.1.toNat)
            · rfl
            · have := ht _ hx; rw [ht'] at this; cases this
          rw [e, Nat.testBit_or, htf, hV2]
          simp [hi]
        · rw [hVn i (by omega)]; simp [hi]
      · exact h1 g hg
    · intro j hj
      have e := h2 j (by rw [Nat.testBit_or, hj]; simp)
      rw [e, Nat.testBit_or, hV2]
      by_cases c : f.1.toNat ≤ j ∧ j < f.1.toNat + f.2.1.toNat
      · have := and_zero_bit hc2 j (by rw [hb]; simp [c.1, c.2]); rw [this] at hj; cases hj
      · by_cases c' : f.1.toNat ≤ j
        · rw [hVn _ (by omega)]; simp
        · simp [c']

def sgn (v n : Int) : Int × Int :=
  if ¬ (1 ≤ n ∧ n ≤ 32) then (0, 1) else if 2 ^ n.toNat ≤ v then (0, 4) else if 2 ^ (n.toNat - 1) ≤ v then (v - 2 ^ n.toNat, 0) else (v, 0)
theorem sgn0 {v n : Int} (h : ¬ (1 ≤ n ∧ n ≤ 32)) : sgn v n = (0, 1) := if_pos h
theorem sgn1 {v n : Int} (h1 : 1 ≤ n) (h2 : n ≤ 32) (c : 2 ^ n.toNat ≤ v) : sgn v n = (0, 4) := by unfold sgn; rw [if_neg (by omega), if_pos c]
theorem sgn2 {v n : Int} (h1 : 1 ≤ n) (h2 : n ≤ 32) (c : v < 2 ^ n.toNat) (d : 2 ^ (n.toNat - 1) ≤ v) : sgn v n = (v - 2 ^ n.toNat, 0) := by unfold sgn; rw [if_neg (by omega), if_neg (by omega), if_pos d]
theorem sgn3 {v n : Int} (h1 : 1 ≤ n) (h2 : n ≤ 32) (c : v < 2 ^ n.toNat) (d : v < 2 ^ (n.toNat - 1)) : sgn v n = (v, 0) := by unfold sgn; rw [if_neg (by omega), if_neg (by omega), if_neg (by omega)]
def pck (v n : Int) : Int × Int :=
  if ¬ (1 ≤ n ∧ n ≤ 32) then (0, 1) else if v < - 2 ^ (n.toNat - 1) ∨ 2 ^ (n.toNat - 1) ≤ v then (0, 4) else (v % 2 ^ n.toNat, 0)
theorem pck0 {v n : Int} (h : ¬ (1 ≤ n ∧ n ≤ 32)) : pck v n = (0, 1) := if_pos h
theorem pck1 {v n : Int} (h1 : 1 ≤ n) (h2 : n ≤ 32) (c : v < - 2 ^ (n.toNat - 1) ∨ 2 ^ (n.toNat - 1) ≤ v) : pck v n = (0, 4) := by unfold pck; rw [if_neg (by omega), if_pos c]
theorem pck2 {v n : Int} (h1 : 1 ≤ n) (h2 : n ≤ 32) (c : - 2 ^ (n.toNat - 1) ≤ v) (d : v < 2 ^ (n.toNat - 1)) : pck v n = (v % 2 ^ n.toNat, 0) := by unfold pck; rw [if_neg (by omega), if_neg (by omega)]
theorem pow_pred (n : Int) (h : 1 ≤ n) : (2 : Int) ^ n.toNat = 2 * 2 ^ (n.toNat - 1) := by
  obtain ⟨k, hk⟩ : ∃ k, n.toNat = k + 1 := ⟨n.toNat - 1, by omega⟩
  rw [hk, Int.pow_succ]; simp; omega
theorem wrap64_pow (n : Int) (h : n ≤ 62) : wrap64 (2 ^ n.toNat) = 2 ^ n.toNat := by
  have := pow_le n.toNat 62 (by omega) 4611686018427387904 (by decide)
  unfold wrap64; omega

theorem mod_mod_pow (v : Int) (k : Nat) (h : k ≤ 32) : v % 4294967296 % 2 ^ k = v % 2 ^ k := by
  apply Int.emod_emod_of_dvd
  rw [show (4294967296 : Int) = 2 ^ k * 2 ^ (32 - k) from by rw [← Int.pow_add, show k + (32 - k) = 32 from by omega]; rfl]
  exact Int.dvd_mul_right _ _
theorem mod_neg_pow (v p : Int) (h : v < 0) (h2 : - p ≤ v) : v % (2 * p) = v + 2 * p := by
  rw [← Int.add_emod_right, Int.emod_eq_of_lt (by omega) (by omega)]

theorem sgn_back {v n a : Int} (h0 : 0 ≤ v) (h : sgn v n = (a, 0)) : pck a n = (v, 0) ∧ -9223372036854775808 ≤ a ∧ a ≤ 9223372036854775807 := by
  by_cases c : 1 ≤ n ∧ n ≤ 32
  · obtain ⟨c1, c2⟩ := c
    have hp := pow32 n c2
    have hq := pow_pred n c1
    by_cases d : 2 ^ n.toNat ≤ v
    · rw [sgn1 c1 c2 d] at h; simp at h
    · by_cases f : 2 ^ (n.toNat - 1) ≤ v
      · rw [sgn2 c1 c2 (by omega) f] at h
        simp only [Prod.mk.injEq, and_true] at h
        subst h
        refine ⟨?_, by omega, by omega⟩
        rw [pck2 c1 c2 (by omega) (by omega), Int.sub_emod_right, Int.emod_eq_of_lt h0 (by omega)]
      · rw [sgn3 c1 c2 (by omega) (by omega)] at h
        simp only [Prod.mk.injEq, and_true] at h
        subst h
        refine ⟨?_, by omega, by omega⟩
        rw [pck2 c1 c2 (by omega) (by omega), Int.emod_eq_of_lt h0 (by omega)]
  · rw [sgn0 c] at h; simp at h
theorem pck_cases (s n : Int) : (pck s n = (0, 1)) ∨ pck s n = (0, 4) ∨ ∃ c, pck s n = (c, 0) ∧ 1 ≤ n ∧ n ≤ 32 ∧ - 2 ^ (n.toNat - 1) ≤ s ∧ s < 2 ^ (n.toNat - 1) ∧ c = s % 2 ^ n.toNat := by
  by_cases c : 1 ≤ n ∧ n ≤ 32
  · obtain ⟨c1, c2⟩ := c
    by_cases d : s < - 2 ^ (n.toNat - 1) ∨ 2 ^ (n.toNat - 1) ≤ s
    · exact .inr (.inl (pck1 c1 c2 d))
    · exact .inr (.inr ⟨_, pck2 c1 c2 (by omega) (by omega), c1, c2, by omega, by omega, rfl⟩)
  · exact .inl (pck0 c)
theorem pck_back {s n c : Int} (h : pck s n = (c, 0)) : sgn c n = (s, 0) ∧ 0 ≤ c ∧ c < 4294967296 := by
  rcases pck_cases s n with e | e | ⟨c', e, c1, c2, d1, d2, rfl⟩
  · rw [e] at h; simp at h
  · rw [e] at h; simp at h
  rw [e] at h
  simp only [Prod.mk.injEq, and_true] at h
  have hp := pow32 n c2
  have hq := pow_pred n c1
  have hb := Int.emod_nonneg s (show (2:Int) ^ n.toNat ≠ 0 by omega)
  have hb' := Int.emod_lt_of_pos s (show (0:Int) < 2 ^ n.toNat by omega)
  subst h
  refine ⟨?_, hb, by omega⟩
  by_cases f : 0 ≤ s
  · have e := Int.emod_eq_of_lt f (show s < 2 ^ n.toNat by omega)
    rw [e, sgn3 c1 c2 (by omega) (by omega)]
  · have e := mod_neg_pow s (2 ^ (n.toNat - 1)) (by omega) (by omega)
    rw [hq, e, ← hq, sgn2 c1 c2 (by omega) (by omega)]
    simp

set_option maxHeartbeats 400000 in
theorem right_any (a n : Int) (w : World) :
    Calls Tryd.prog 86 #[.int .i64 a, .int .i64 n] w (Ret (.bool (decide (0 ≤ a ∧ a < 32 ∧ 1 ≤ n ∧ n ≤ 32 - a))) w) := by
  go_enter Tryd.func86, Tryd.ntmps86
  go_wp2
  all_goals (go_ret; refine ret_bool ?_; first | (rw [Bool.eq_iff_iff]; simp; omega) | simp; omega)

set_option maxHeartbeats 400000 in
theorem bitones_any (n : Int) (w : World) (h0 : 0 ≤ n) (h1 : n ≤ 32) :
    Calls Tryd.prog 87 #[.int .i64 n] w (Ret (.int .u32 (2 ^ n.toNat - 1)) w) := by
  go_enter Tryd.func87, Tryd.ntmps87
  go_wp2
  go_ret
  refine ret_int ?_
  have := pow32 n h1
  simp only [IntKind.wrap_u64]; omega


set_option maxHeartbeats 400000 in
theorem signed_any (v n : Int) (w : World) (h0 : 0 ≤ v) (h1 : v < 4294967296) :
    Calls Tryd.prog 79 #[.int .u32 v, .int .i64 n] w (Ret (two .i64 .i64 (sgn v n)) w) := by
  by_cases hn : 1 ≤ n ∧ n ≤ 32
  · have hr : decide ((0:Int) ≤ 0 ∧ (0:Int) < 32 ∧ 1 ≤ n ∧ n ≤ 32 - 0) = true := by simp; omega
    obtain ⟨hn1, hn2⟩ := hn
    have ha := andNot_ones v n h0 h1 (by omega) (by omega)
    by_cases c1 : (2:Int) ^ n.toNat ≤ v
    · go_enter Tryd.func79, Tryd.ntmps79
      go_wp2_with (first | (go_at_call 86; refine (right_any _ _ _).mono ?_; rintro e w' ⟨rfl, rfl⟩) | (go_at_call 87; refine (bitones_any _ _ (by omega) (by omega)).mono ?_; rintro e w' ⟨rfl, rfl⟩))
      go_ret2
      exact ret_two (sgn1 hn1 hn2 c1)
    · have hd := div_eq_one v (n.toNat - 1) (by rw [show n.toNat - 1 + 1 = n.toNat from by omega]; omega)
      have hw := wrap64_pow n (by omega)
      have hp := pow32 n hn2
      go_enter Tryd.func79, Tryd.ntmps79
      go_wp2_with (first | (go_at_call 86; refine (right_any _ _ _).mono ?_; rintro e w' ⟨rfl, rfl⟩) | (go_at_call 87; refine (bitones_any _ _ (by omega) (by omega)).mono ?_; rintro e w' ⟨rfl, rfl⟩))
      · go_ret2
        exact ret_two (sgn2 hn1 hn2 (by assumption) (by assumption))
      · go_ret2
        exact ret_two (sgn3 hn1 hn2 (by assumption) (by assumption))
  · have hr : decide ((0:Int) ≤ 0 ∧ (0:Int) < 32 ∧ 1 ≤ n ∧ n ≤ 32 - 0) = false := by simp; omega
    go_enter Tryd.func79, Tryd.ntmps79
    go_wp2_with (first | (go_at_call 86; refine (right_any _ _ _).mono ?_; rintro e w' ⟨rfl, rfl⟩))
    go_ret2
    exact ret_two (sgn0 hn)

structure FS (w : World) (B : Nat) (a : Option Addr) (n : Nat) (l : List F3) : Prop where
  len : n = l.length
  wf : ∀ f ∈ l, 0 ≤ f.2.2 ∧ f.2.2 < 4294967296 ∧ -9223372036854775808 ≤ f.1 ∧ f.1 ≤ 9223372036854775807 ∧ -9223372036854775808 ≤ f.2.1 ∧ f.2.1 ≤ 9223372036854775807
  cells : l ≠ [] → ∃ b off, a = some ⟨b, off, none⟩ ∧ b < B ∧ ∀ k (h : k < l.length),
    w.cell? ⟨b, off + k * 3, none⟩ = some (.int .i64 l[k].1) ∧ w.cell? ⟨b, off + k * 3 + 1, none⟩ = some (.int .i64 l[k].2.1) ∧ w.cell? ⟨b, off + k * 3 + 2, none⟩ = some (.int .u32 l[k].2.2)
theorem FS.below {w w' : World} {B : Nat} {a : Option Addr} {n : Nat} {l : List F3} (h : FS w B a n l) (hb : Below B w w') : FS w' B a n l :=
  ⟨h.len, h.wf, fun hl => by
    obtain ⟨b, off, e, hB, hc⟩ := h.cells hl
    refine ⟨b, off, e, hB, fun k hk => ?_⟩
    obtain ⟨h0, h1, h2⟩ := hc k hk
    exact ⟨(hb.cell (p := ⟨b, off + k * 3, none⟩) hB).trans h0, (hb.cell (p := ⟨b, off + k * 3 + 1, none⟩) hB).trans h1, (hb.cell (p := ⟨b, off + k * 3 + 2, none⟩) hB).trans h2⟩⟩

set_option maxHeartbeats 400000 in
theorem field_any (v a n : Int) (w : World) (h0 : 0 ≤ v) (h1 : v < 4294967296) :
    Calls Tryd.prog 77 #[.int .u32 v, .int .i64 a, .int .i64 n] w (RetD (two .u32 .i64 (fieldS v a n)) w) := by
  by_cases h : 0 ≤ a ∧ a < 32 ∧ 1 ≤ n ∧ n ≤ 32 - a
  · have hr : decide (0 ≤ a ∧ a < 32 ∧ 1 ≤ n ∧ n ≤ 32 - a) = true := by simpa using h
    obtain ⟨r1, r2, r3, r4⟩ := h
    have hp := pow32 a (by omega)
    have hq0 : 0 ≤ v / 2 ^ a.toNat := Int.ediv_nonneg h0 (by omega)
    have hq1 : v / 2 ^ a.toNat ≤ v := Int.ediv_le_self _ h0
    have ha := and_ones32 (v / 2 ^ a.toNat) n hq0 (by omega) (by omega) (by omega)
    have hf : fieldS v a n = (v / 2 ^ a.toNat % 2 ^ n.toNat, 0) := by unfold fieldS rightB; rw [hr]; rfl
    have HF := Lib.hid hf
    clear hf
    go_enter Tryd.func77, Tryd.ntmps77
    go_wp2_with (first | (go_at_call 86; refine (right_any _ _ _).mono ?_; rintro e w' ⟨rfl, rfl⟩) | (go_at_call 87; refine (bitones_any _ _ (by omega) (by omega)).mono ?_; rintro e w' ⟨rfl, rfl⟩))
    go_quiet ((go_at_call 87; exact Calls.quiet_of_same ((bitones_any _ _ (by omega) (by omega)).mono fun e w' h => ⟨h.1, h.2.symm⟩)))
    go_wp2
    go_ret2
    exact retD_two HF.out _
  · have hr : decide (0 ≤ a ∧ a < 32 ∧ 1 ≤ n ∧ n ≤ 32 - a) = false := by simpa using h
    have hf : fieldS v a n = (0, 1) := by unfold fieldS rightB; rw [hr]; rfl
    have HF := Lib.hid hf
    clear hf h
    go_enter Tryd.func77, Tryd.ntmps77
    go_wp2_with (first | (go_at_call 86; refine (right_any _ _ _).mono ?_; rintro e w' ⟨rfl, rfl⟩))
    go_ret2
    exact retD_two HF.out 0
theorem field_eq (v a n : Int) (w : World) (x e : Int) (h : 0 ≤ v ∧ v < 4294967296) (he : fieldS v a n = (x, e)) :
    Calls Tryd.prog 77 #[.int .u32 v, .int .i64 a, .int .i64 n] w (RetD (.tuple #[.int .u32 x, .int .i64 e]) w) := by
  have := field_any v a n w h.1 h.2
  rwa [he] at this
theorem FS.up {w : World} {B : Nat} {a : Option Addr} {n : Nat} {l : List F3} (h : FS w B a n l) {B' : Nat} (hB : B ≤ B') : FS w B' a n l :=
  ⟨h.len, h.wf, fun hl => by obtain ⟨b, off, e, h1, h2⟩ := h.cells hl; exact ⟨b, off, e, by omega, h2⟩⟩
theorem FS.next {w w' : World} {a : Option Addr} {n : Nat} {l : List F3} (h : FS w w.heap.size a n l) (hb : Below w.heap.size w w') : FS w' w'.heap.size a n l :=
  (h.below hb).up hb.size

end Go.Proofs.YtkcgnmicaigjfaaDoor
