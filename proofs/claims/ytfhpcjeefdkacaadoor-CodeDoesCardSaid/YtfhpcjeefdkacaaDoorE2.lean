/- The reference's Places; the law CodeBit, walked. -/
import Derived.Test.YtfhpcjeefdkacaaDoorE1
import Derived.Deep.RegionHeld3
namespace Go.Proofs.YtfhpcjeefdkacaaDoor
set_option linter.unusedVariables false
set_option linter.unusedSimpArgs false
open Go.RowKit

def encQ (p : Int × Int) : List Value := [.int .i64 p.1, .int .i64 p.2]
theorem encQ_len : ∀ p, (encQ p).length = 2 := fun _ => rfl
def plT : List (List (Int × Int)) := [[], [(0, 5), (5, 16), (21, 2)], [(0, 5), (5, 5), (10, 12), (22, 1)], [(0, 5), (5, 5), (10, 6), (16, 6), (22, 1)], [(0, 5), (5, 5), (10, 6), (16, 5), (22, 2)], [(0, 5), (5, 5), (10, 6), (16, 5), (22, 2)], [(0, 5), (5, 5), (10, 5), (16, 5)], [(0, 5), (5, 5), (10, 12)], [(0, 5), (5, 5), (10, 12)], [(0, 5), (5, 19)], [(0, 5), (5, 19), (29, 2)], [(0, 26)], [(0, 4), (5, 19)], [(5, 5)], [(5, 16)], [], [(0, 5), (5, 5), (12, 4), (16, 5)]]
def plL (s : Nat) : List (Int × Int) := plT.getD s []
/-- A row of pairs is returned, made anew. -/
def RetQ (l : List (Int × Int)) (w : World) (e : Ending) (w' : World) : Prop :=
  ∃ a c, e = .returned (.slice a l.length c) ∧ SL encQ 2 w' w'.heap.size a l.length l ∧ Below w.heap.size w w'
theorem retQ_lit (w : World) (T : TypeId) (l : List (Int × Int)) (cs : Array Value) (hcs : cs.toList = l.flatMap encQ) (n c : Nat) (hn : n = l.length) : RetQ l w (.returned (.slice (some ⟨w.heap.size, 0, none⟩) n c)) (w.alloc (.cells cs T)) := by
  subst hn
  exact ⟨_, _, rfl, (SL.lit w T l encQ_len (by decide) cs hcs _ rfl).up (by simp), (Below.refl _ _).alloc (Nat.le_refl _) _⟩
set_option maxHeartbeats 4000000 in
theorem Places_any (s : Nat) (hs : s ≤ 16) (w : World) : Calls Tryd.prog 19 #[.int .i64 s] w (RetQ (plL s) w) := by
  have hc : s = 0 ∨ s = 1 ∨ s = 2 ∨ s = 3 ∨ s = 4 ∨ s = 5 ∨ s = 6 ∨ s = 7 ∨ s = 8 ∨ s = 9 ∨ s = 10 ∨ s = 11 ∨ s = 12 ∨ s = 13 ∨ s = 14 ∨ s = 15 ∨ s = 16 := by omega
  rcases hc with rfl | rfl | rfl | rfl | rfl | rfl | rfl | rfl | rfl | rfl | rfl | rfl | rfl | rfl | rfl | rfl | rfl
  · go_enter Tryd.func19, Tryd.ntmps19
    go_wp2
    go_ret
    exact ⟨none, 0, rfl, SL.nil _ _ _, Below.refl _ _⟩
  · go_enter Tryd.func19, Tryd.ntmps19
    go_wp2
    go_ret
    exact retQ_lit w _ (plL 1) _ rfl _ _ rfl
  · go_enter Tryd.func19, Tryd.ntmps19
    go_wp2
    go_ret
    exact retQ_lit w _ (plL 2) _ rfl _ _ rfl
  · go_enter Tryd.func19, Tryd.ntmps19
    go_wp2
    go_ret
    exact retQ_lit w _ (plL 3) _ rfl _ _ rfl
  · go_enter Tryd.func19, Tryd.ntmps19
    go_wp2
    go_ret
    exact retQ_lit w _ (plL 4) _ rfl _ _ rfl
  · go_enter Tryd.func19, Tryd.ntmps19
    go_wp2
    go_ret
    exact retQ_lit w _ (plL 5) _ rfl _ _ rfl
  · go_enter Tryd.func19, Tryd.ntmps19
    go_wp2
    go_ret
    exact retQ_lit w _ (plL 6) _ rfl _ _ rfl
  · go_enter Tryd.func19, Tryd.ntmps19
    go_wp2
    go_ret
    exact retQ_lit w _ (plL 7) _ rfl _ _ rfl
  · go_enter Tryd.func19, Tryd.ntmps19
    go_wp2
    go_ret
    exact retQ_lit w _ (plL 8) _ rfl _ _ rfl
  · go_enter Tryd.func19, Tryd.ntmps19
    go_wp2
    go_ret
    exact retQ_lit w _ (plL 9) _ rfl _ _ rfl
  · go_enter Tryd.func19, Tryd.ntmps19
    go_wp2
    go_ret
    exact retQ_lit w _ (plL 10) _ rfl _ _ rfl
  · go_enter Tryd.func19, Tryd.ntmps19
    go_wp2
    go_ret
    exact retQ_lit w _ (plL 11) _ rfl _ _ rfl
  · go_enter Tryd.func19, Tryd.ntmps19
    go_wp2
    go_ret
    exact retQ_lit w _ (plL 12) _ rfl _ _ rfl
  · go_enter Tryd.func19, Tryd.ntmps19
    go_wp2
    go_ret
    exact retQ_lit w _ (plL 13) _ rfl _ _ rfl
  · go_enter Tryd.func19, Tryd.ntmps19
    go_wp2
    go_ret
    exact retQ_lit w _ (plL 14) _ rfl _ _ rfl
  · go_enter Tryd.func19, Tryd.ntmps19
    go_wp2
    go_ret
    exact ⟨none, 0, rfl, SL.nil _ _ _, Below.refl _ _⟩
  · go_enter Tryd.func19, Tryd.ntmps19
    go_wp2
    go_ret
    exact retQ_lit w _ (plL 16) _ rfl _ _ rfl

def inP (l : List (Int × Int)) (a : Int) : Bool := l.any fun p => decide (p.1 ≤ a) && decide (a < p.1 + p.2)
set_option maxRecDepth 100000 in
theorem inP_tab : ∀ s : Fin 17, ∀ a : Fin 32, s.val = 0 ∨ inP (plL s.val) a.val = !(tight s.val).testBit a.val := by decide +kernel
theorem xor_op {o x a : Nat} (h : isOp o x = true) : isOp o (x ^^^ 2 ^ a) = !(tight (shapeI o).toNat).testBit a := by
  unfold isOp at h ⊢
  rw [beq_iff_eq] at h
  rw [← h]
  cases ht : (tight (shapeI o).toNat).testBit a
  · rw [Bool.not_false, beq_iff_eq]
    apply Nat.eq_of_testBit_eq
    intro j
    rw [Nat.testBit_and, Nat.testBit_and, Nat.testBit_xor, Nat.testBit_two_pow]
    by_cases e : a = j
    · subst e; rw [ht]; simp
    · simp [e]
  · rw [Bool.not_true, beq_eq_false_iff_ne]
    intro he
    have := congrArg (fun z => z.testBit a) he
    simp only [Nat.testBit_and, Nat.testBit_xor, Nat.testBit_two_pow, ht, Bool.and_true] at this
    cases hx : x.testBit a <;> simp [hx] at this
theorem xor_opW {x a : Nat} (h : 1 ≤ opW x) : decide (opW (x ^^^ 2 ^ a) = opW x) = !(tight (shapeI (opW x : Nat)).toNat).testBit a := by
  rcases opW_or x with ⟨e, -⟩ | ⟨h1, h2, h3⟩
  · omega
  · rw [← xor_op h3]
    cases hq : isOp (opW x) (x ^^^ 2 ^ a)
    · rw [decide_eq_false_iff_not]
      intro e
      rcases opW_or (x ^^^ 2 ^ a) with ⟨e2, -⟩ | ⟨k1, k2, k3⟩
      · omega
      · rw [e, hq] at k3; cases k3
    · rw [decide_eq_true_eq]; exact opW_is h1 h2 hq
theorem or_add (x y : Nat) (hx : x < 18446744073709551616) (hy : y < 18446744073709551616) (h : x &&& y = 0) (hs : x + y < 18446744073709551616) : x ||| y = x + y := by
  have e : BitVec.ofNat 64 x &&& BitVec.ofNat 64 y = 0#64 := by
    apply BitVec.eq_of_toNat_eq
    simp only [BitVec.toNat_and, BitVec.toNat_ofNat]
    rw [Nat.mod_eq_of_lt hx, Nat.mod_eq_of_lt hy, h]
  have := congrArg BitVec.toNat (BitVec.add_eq_or_of_and_eq_zero _ _ e)
  rw [BitVec.toNat_add, BitVec.toNat_or, BitVec.toNat_ofNat, BitVec.toNat_ofNat, Nat.mod_eq_of_lt hx, Nat.mod_eq_of_lt hy] at this
  omega
theorem xor_add (x a : Nat) (ha : a < 32) (hx : x < 4294967296) : (x / 2 ^ a % 2 = 0 → x + 2 ^ a = x ^^^ 2 ^ a) ∧ (x / 2 ^ a % 2 = 1 → x - 2 ^ a = x ^^^ 2 ^ a ∧ 2 ^ a ≤ x) ∧ x ^^^ 2 ^ a < 4294967296 := by
  have hl : x ^^^ 2 ^ a < 4294967296 := Nat.xor_lt_two_pow (n := 32) hx (Nat.pow_lt_pow_right (by decide) ha)
  have hp : 2 ^ a < 4294967296 := Nat.pow_lt_pow_right (n := 32) (by decide) ha
  refine ⟨fun h => ?_, fun h => ?_, hl⟩
  · have hb : x.testBit a = false := by rw [Nat.testBit_eq_decide_div_mod_eq]; simp [h]
    have hz : x &&& 2 ^ a = 0 := by
      apply Nat.eq_of_testBit_eq; intro j
      rw [Nat.testBit_and, Nat.testBit_two_pow, Nat.zero_testBit]
      by_cases e : a = j
      · subst e; rw [hb]; rfl
      · simp [e]
    have h1 := or_add x (2 ^ a) (by omega) (by omega) hz (by omega)
    rw [← h1]
    apply Nat.eq_of_testBit_eq; intro j
    rw [Nat.testBit_or, Nat.testBit_xor, Nat.testBit_two_pow]
    by_cases e : a = j
    · subst e; rw [hb]; simp
    · simp [e]
  · have hb : x.testBit a = true := by rw [Nat.testBit_eq_decide_div_mod_eq]; simp [h]
    have hy : (x ^^^ 2 ^ a).testBit a = false := by rw [Nat.testBit_xor, hb, Nat.testBit_two_pow]; simp
    have hz : (x ^^^ 2 ^ a) &&& 2 ^ a = 0 := by
      apply Nat.eq_of_testBit_eq; intro j
      rw [Nat.testBit_and, Nat.testBit_two_pow, Nat.zero_testBit]
      by_cases e : a = j
      · subst e; rw [hy]; rfl
      · simp [e]
    have h1 := or_add (x ^^^ 2 ^ a) (2 ^ a) (by omega) (by omega) hz (by omega)
    have h2 : (x ^^^ 2 ^ a) ||| 2 ^ a = x := by
      apply Nat.eq_of_testBit_eq; intro j
      rw [Nat.testBit_or, Nat.testBit_xor, Nat.testBit_two_pow]
      by_cases e : a = j
      · subst e; rw [hb]; simp
      · simp [e]
    omega
end Go.Proofs.YtfhpcjeefdkacaaDoor
