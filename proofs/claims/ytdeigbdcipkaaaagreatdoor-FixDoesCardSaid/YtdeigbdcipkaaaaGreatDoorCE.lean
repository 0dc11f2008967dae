/- The law's example, and the laws of code that have no reference, walked. The laws CodeBack and CodeWord, walked. The reference's Shape. The reference's Places; the law CodeBit, walked. The law CodeBit, walked. -/
import Derived.Test.YtdeigbdcipkaaaaGreatDoorC13
import Derived.Deep.RegionHeld3
import Derived.Deep.DeepCutAuto
namespace Go.Proofs.YtdeigbdcipkaaaaGreatDoor
set_option linter.unusedVariables false
set_option linter.unusedSimpArgs false
open Go.RowKit

abbrev iNop : In := ⟨38, 0, 0, 0, 0, 0, 0, 0, 0, 0⟩
abbrev iAdd : In := ⟨4, 1, 2, 0, 0, 3, 0, 0, 0, 0⟩
abbrev iRet : In := ⟨36, 0, 30, 0, 0, 0, 0, 0, 0, 0⟩
theorem enNop : encP iNop = (3573751839, 0) := by decide +kernel
theorem enAdd : encP iAdd = (2432699457, 0) := by decide +kernel
theorem enZ : encP inZ = (0, 1) := by decide +kernel
theorem isRet : isI iRet = true := by decide +kernel
theorem encRet : encW iRet = 3596551104 := by decide +kernel
theorem deRet : dI 3596551104 = (iRet, 0) := by
  have := (dI_enc isRet (by decide)).2.2
  rwa [encRet] at this
theorem opZero : opW 0 = 0 := by decide +kernel
theorem deZero : dI 0 = (inZ, 11) := by
  have h : isI (readW 0) = false := by
    cases hI : isI (readW 0)
    · rfl
    · have := code_op hI
      rw [readW_op, opZero] at this; omega
  unfold dI
  rw [h, if_neg (by decide)]
theorem opNop : opW 3573751839 = 38 := by decide +kernel
theorem inb_lit (i : In) (h : (decide (0 ≤ i.op) && decide (i.op ≤ 100) && decide (0 ≤ i.d) && decide (i.d ≤ 100) && decide (0 ≤ i.n) && decide (i.n ≤ 100) && decide (0 ≤ i.imm) && decide (i.imm ≤ 100)) = true) (hm : i.m = 0) (ha : i.a = 0) (h6 : i.mask = 0) (h7 : i.shift = 0) (h8 : i.amount = 0) (h9 : i.cond = 0) : InB i := by
  simp only [Bool.and_eq_true, decide_eq_true_eq] at h
  refine ⟨?_, ?_, ?_, ?_, ?_, ?_, ?_, ?_, ?_, ?_⟩ <;> (try unfold i64B) <;> omega

theorem RetD.toB {v : Value} {w w' : World} {e : Ending} (h : RetD v w e w') : RetB v w e w' := by
  obtain ⟨he, m, rfl⟩ := h
  exact ⟨he, below_refl_drewN w m⟩
theorem and_ten {X Y : Nat} {i j : In} {w : World} (h : Ten X i w) (g : Ten Y j w) :
    w.cell? ⟨X, 0, none⟩ = some (.int .i64 i.op) ∧ w.cell? ⟨X, 1, none⟩ = some (.int .i64 i.d) ∧ w.cell? ⟨X, 2, none⟩ = some (.int .i64 i.n) ∧ w.cell? ⟨X, 3, none⟩ = some (.int .i64 i.m) ∧ w.cell? ⟨X, 4, none⟩ = some (.int .i64 i.a) ∧ w.cell? ⟨X, 5, none⟩ = some (.int .i64 i.imm) ∧ w.cell? ⟨X, 6, none⟩ = some (.int .u64 i.mask) ∧ w.cell? ⟨X, 7, none⟩ = some (.int .i64 i.shift) ∧ w.cell? ⟨X, 8, none⟩ = some (.int .i64 i.amount) ∧ w.cell? ⟨X, 9, none⟩ = some (.int .i64 i.cond) ∧ w.cell? ⟨Y, 0, none⟩ = some (.int .i64 j.op) ∧ w.cell? ⟨Y, 1, none⟩ = some (.int .i64 j.d) ∧ w.cell? ⟨Y, 2, none⟩ = some (.int .i64 j.n) ∧ w.cell? ⟨Y, 3, none⟩ = some (.int .i64 j.m) ∧ w.cell? ⟨Y, 4, none⟩ = some (.int .i64 j.a) ∧ w.cell? ⟨Y, 5, none⟩ = some (.int .i64 j.imm) ∧ w.cell? ⟨Y, 6, none⟩ = some (.int .u64 j.mask) ∧ w.cell? ⟨Y, 7, none⟩ = some (.int .i64 j.shift) ∧ w.cell? ⟨Y, 8, none⟩ = some (.int .i64 j.amount) ∧ w.cell? ⟨Y, 9, none⟩ = some (.int .i64 j.cond) := by
  obtain ⟨a0, a1, a2, a3, a4, a5, a6, a7, a8, a9⟩ := h
  obtain ⟨b0, b1, b2, b3, b4, b5, b6, b7, b8, b9⟩ := g
  exact ⟨a0, a1, a2, a3, a4, a5, a6, a7, a8, a9, b0, b1, b2, b3, b4, b5, b6, b7, b8, b9⟩

theorem retB_int {k : IntKind} {a b : Int} {w w' : World} (h : a = b) (hb : Below w.heap.size w w') : RetB (.int k b) w (.returned (.int k a)) w' := ⟨by rw [h], hb⟩
set_option maxRecDepth 100000 in
set_option maxHeartbeats 4000000 in
theorem RShape_out (op : Int) (w : World) (h : op < 1 ∨ 39 < op) : Calls Tryz.prog 42 #[.int .i64 op] w (RetB (.int .i64 0) w) := by
  rcases h with h | h
  · go_enter Tryz.func42, Tryz.ntmps42
    go_wp2
    go_ret
    exact retB_int rfl ((Below.refl _ _).alloc (Nat.le_refl _) _)
  · have h1 : 1 ≤ op := by omega
    go_enter Tryz.func42, Tryz.ntmps42
    go_wp2
    go_ret
    exact retB_int rfl ((Below.refl _ _).alloc (Nat.le_refl _) _)

theorem shArr (k : Nat) (hk : k < 40) : (#[Value.int .i64 0, .int .i64 1, .int .i64 1, .int .i64 1, .int .i64 2, .int .i64 2, .int .i64 2, .int .i64 2, .int .i64 3, .int .i64 3, .int .i64 3, .int .i64 3, .int .i64 4, .int .i64 4, .int .i64 4, .int .i64 4, .int .i64 5, .int .i64 5, .int .i64 5, .int .i64 5, .int .i64 6, .int .i64 6, .int .i64 7, .int .i64 7, .int .i64 8, .int .i64 8, .int .i64 9, .int .i64 10, .int .i64 10, .int .i64 11, .int .i64 11, .int .i64 12, .int .i64 9, .int .i64 9, .int .i64 13, .int .i64 13, .int .i64 13, .int .i64 14, .int .i64 15, .int .i64 16] : Array Value)[k]? = some (.int .i64 (shL.getD k 0)) := by
  show (shL.map (Value.int .i64)).toArray[k]? = _
  have hl : k < shL.length := hk
  rw [List.getElem?_toArray, List.getElem?_map, List.getElem?_eq_getElem hl, List.getD_eq_getElem?_getD, List.getElem?_eq_getElem hl]
  rfl
set_option maxRecDepth 100000 in
set_option maxHeartbeats 4000000 in
theorem RShape_in (k : Nat) (w : World) (h1 : 1 ≤ k) (h2 : k ≤ 39) : Calls Tryz.prog 42 #[.int .i64 k] w (RetB (.int .i64 (shL.getD k 0)) w) := by
  have hA := shArr k (by omega)
  generalize shL.getD k 0 = v at *
  go_enter Tryz.func42, Tryz.ntmps42
  go_wp2
  go_ret
  exact retB_int rfl ((Below.refl _ _).alloc (Nat.le_refl _) _)

theorem RShape_any (op : Int) (w : World) : Calls Tryz.prog 42 #[.int .i64 op] w (RetB (.int .i64 (shapeI op)) w) := by
  by_cases c : op < 1 ∨ 39 < op
  · have e : shapeI op = 0 := by unfold shapeI; rw [if_pos c]
    rw [e]
    exact RShape_out op w c
  · obtain ⟨k, rfl⟩ := Int.eq_ofNat_of_zero_le (show 0 ≤ op by omega)
    have e : shapeI (k : Int) = shL.getD k 0 := by unfold shapeI; rw [if_neg c]; rfl
    rw [e]
    exact RShape_in k w (by omega) (by omega)

def encQ (p : Int × Int) : List Value := [.int .i64 p.1, .int .i64 p.2]
theorem encQ_len : ∀ p, (encQ p).length = 2 := fun _ => rfl
def plT : List (List (Int × Int)) := [[], [(0, 5), (5, 16), (21, 2)], [(0, 5), (5, 5), (10, 12), (22, 1)], [(0, 5), (5, 5), (10, 6), (16, 6), (22, 1)], [(0, 5), (5, 5), (10, 6), (16, 5), (22, 2)], [(0, 5), (5, 5), (10, 6), (16, 5), (22, 2)], [(0, 5), (5, 5), (10, 5), (16, 5)], [(0, 5), (5, 5), (10, 12)], [(0, 5), (5, 5), (10, 12)], [(0, 5), (5, 19)], [(0, 5), (5, 19), (29, 2)], [(0, 26)], [(0, 4), (5, 19)], [(5, 5)], [(5, 16)], [], [(0, 5), (5, 5), (12, 4), (16, 5)]]
def plL (s : Nat) : List (Int × Int) := plT.getD s []
/-- A row of pairs is returned, made anew. -/
def RetQ (l : List (Int × Int)) (w : World) (e : Ending) (w' : World) : Prop :=
  ∃ a c, e = .returned (.slice a l.length c) ∧ SL encQ 2 w' w'.heap.size a l.length l ∧ Below w.heap.size w w'
theorem retQ_lit (w : World) (T : TypeId) (l : List (Int × Int)) (cs : Array Value) (hcs : cs.toList = l.flatMap encQ) (n c : Nat) (hn : n = l.length) : RetQ l w (.returned (.slice (some ⟨w.heap.size, 0, none⟩) n c)) (w.alloc (.cells cs T)) := by
  subst hn
  exact ⟨_, _, rfl, (SL.lit w T l encQ_len (by decide) cs hcs _ rfl).up (by simp), (Below.refl _ _).alloc (Nat.le_refl _) _⟩
set_option maxHeartbeats 4000000 in
theorem Places_any (s : Nat) (hs : s ≤ 16) (w : World) : Calls Tryz.prog 41 #[.int .i64 s] w (RetQ (plL s) w) := by
  have hc : s = 0 ∨ s = 1 ∨ s = 2 ∨ s = 3 ∨ s = 4 ∨ s = 5 ∨ s = 6 ∨ s = 7 ∨ s = 8 ∨ s = 9 ∨ s = 10 ∨ s = 11 ∨ s = 12 ∨ s = 13 ∨ s = 14 ∨ s = 15 ∨ s = 16 := by omega
  rcases hc with rfl | rfl | rfl | rfl | rfl | rfl | rfl | rfl | rfl | rfl | rfl | rfl | rfl | rfl | rfl | rfl | rfl
  · go_enter Tryz.func41, Tryz.ntmps41
    go_wp2
    go_ret
    exact ⟨none, 0, rfl, SL.nil _ _ _, Below.refl _ _⟩
  · go_enter Tryz.func41, Tryz.ntmps41
    go_wp2
    go_ret
    exact retQ_lit w _ (plL 1) _ rfl _ _ rfl
  · go_enter Tryz.func41, Tryz.ntmps41
    go_wp2
    go_ret
    exact retQ_lit w _ (plL 2) _ rfl _ _ rfl
  · go_enter Tryz.func41, Tryz.ntmps41
    go_wp2
    go_ret
    exact retQ_lit w _ (plL 3) _ rfl _ _ rfl
  · go_enter Tryz.func41, Tryz.ntmps41
    go_wp2
    go_ret
    exact retQ_lit w _ (plL 4) _ rfl _ _ rfl
  · go_enter Tryz.func41, Tryz.ntmps41
    go_wp2
    go_ret
    exact retQ_lit w _ (plL 5) _ rfl _ _ rfl
  · go_enter Tryz.func41, Tryz.ntmps41
    go_wp2
    go_ret
    exact retQ_lit w _ (plL 6) _ rfl _ _ rfl
  · go_enter Tryz.func41, Tryz.ntmps41
    go_wp2
    go_ret
    exact retQ_lit w _ (plL 7) _ rfl _ _ rfl
  · go_enter Tryz.func41, Tryz.ntmps41
    go_wp2
    go_ret
    exact retQ_lit w _ (plL 8) _ rfl _ _ rfl
  · go_enter Tryz.func41, Tryz.ntmps41
    go_wp2
    go_ret
    exact retQ_lit w _ (plL 9) _ rfl _ _ rfl
  · go_enter Tryz.func41, Tryz.ntmps41
    go_wp2
    go_ret
    exact retQ_lit w _ (plL 10) _ rfl _ _ rfl
  · go_enter Tryz.func41, Tryz.ntmps41
    go_wp2
    go_ret
    exact retQ_lit w _ (plL 11) _ rfl _ _ rfl
  · go_enter Tryz.func41, Tryz.ntmps41
    go_wp2
    go_ret
    exact retQ_lit w _ (plL 12) _ rfl _ _ rfl
  · go_enter Tryz.func41, Tryz.ntmps41
    go_wp2
    go_ret
    exact retQ_lit w _ (plL 13) _ rfl _ _ rfl
  · go_enter Tryz.func41, Tryz.ntmps41
    go_wp2
    go_ret
    exact retQ_lit w _ (plL 14) _ rfl _ _ rfl
  · go_enter Tryz.func41, Tryz.ntmps41
    go_wp2
    go_ret
    exact ⟨none, 0, rfl, SL.nil _ _ _, Below.refl _ _⟩
  · go_enter Tryz.func41, Tryz.ntmps41
    go_wp2
    go_ret
    exact retQ_lit w _ (plL 16) _ rfl _ _ rfl

def inP (l : List (Int × Int)) (a : Int) : Bool := l.any fun p => decide (p.1 ≤ a) && decide (a < p.1 + p.2)
set_option maxRecDepth 100000 in
theorem inP_tab : ∀ s : Fin 17, ∀ a : Fin 32, s.val = 0 ∨ inP (plL s.val) a.val = !(tight s.val).testBit a.val := by decide +kernel
theorem xor_op {o x a : Nat} (h : isOp o x = true) : isOp o (x ^^^ 2 ^ a) = !(tight (shapeI o).toNat).testBit a := by
  unfold isOp at h ⊢
  rw [beq_iff_eq] at h
  rw [← h]
  cases ht : (tight (shapeI o).toNat).testBit a
  · rw [Bool.not_false, beq_iff_eq]
    apply Nat.eq_of_testBit_eq
    intro j
    rw [Nat.testBit_and, Nat.testBit_and, Nat.testBit_xor, Nat.testBit_two_pow]
    by_cases e : a = j
    · subst e; rw [ht]; simp
    · simp [e]
  · rw [Bool.not_true, beq_eq_false_iff_ne]
    intro he
    have := congrArg (fun z => z.testBit a) he
    simp only [Nat.testBit_and, Nat.testBit_xor, Nat.testBit_two_pow, ht, Bool.and_true] at this
    cases hx : x.testBit a <;> simp [hx] at this
theorem xor_opW {x a : Nat} (h : 1 ≤ opW x) : decide (opW (x ^^^ 2 ^ a) = opW x) = !(tight (shapeI (opW x : Nat)).toNat).testBit a := by
  rcases opW_or x with ⟨e, -⟩ | ⟨h1, h2, h3⟩
  · omega
  · rw [← xor_op h3]
    cases hq : isOp (opW x) (x ^^^ 2 ^ a)
    · rw [decide_eq_false_iff_not]
      intro e
      rcases opW_or (x ^^^ 2 ^ a) with ⟨e2, -⟩ | ⟨k1, k2, k3⟩
      · omega
      · rw [e, hq] at k3; cases k3
    · rw [decide_eq_true_eq]; exact opW_is h1 h2 hq
theorem or_add (x y : Nat) (hx : x < 18446744073709551616) (hy : y < 18446744073709551616) (h : x &&& y = 0) (hs : x + y < 18446744073709551616) : x ||| y = x + y := by
  have e : BitVec.ofNat 64 x &&& BitVec.ofNat 64 y = 0#64 := by
    apply BitVec.eq_of_toNat_eq
    simp only [BitVec.toNat_and, BitVec.toNat_ofNat]
    rw [Nat.mod_eq_of_lt hx, Nat.mod_eq_of_lt hy, h]
  have := congrArg BitVec.toNat (BitVec.add_eq_or_of_and_eq_zero _ _ e)
  rw [BitVec.toNat_add, BitVec.toNat_or, BitVec.toNat_ofNat, BitVec.toNat_ofNat, Nat.mod_eq_of_lt hx, Nat.mod_eq_of_lt hy] at this
  omega
theorem xor_add (x a : Nat) (ha : a < 32) (hx : x < 4294967296) : (x / 2 ^ a % 2 = 0 → x + 2 ^ a = x ^^^ 2 ^ a) ∧ (x / 2 ^ a % 2 = 1 → x - 2 ^ a = x ^^^ 2 ^ a ∧ 2 ^ a ≤ x) ∧ x ^^^ 2 ^ a < 4294967296 := by
  have hl : x ^^^ 2 ^ a < 4294967296 := Nat.xor_lt_two_pow (n := 32) hx (Nat.pow_lt_pow_right (by decide) ha)
  have hp : 2 ^ a < 4294967296 := Nat.pow_lt_pow_right (n := 32) (by decide) ha
  refine ⟨fun h => ?_, fun h => ?_, hl⟩
  · have hb : x.testBit a = false := by rw [Nat.testBit_eq_decide_div_mod_eq]; simp [h]
    have hz : x &&& 2 ^ a = 0 := by
      apply Nat.eq_of_testBit_eq; intro j
      rw [Nat.testBit_and, Nat.testBit_two_pow, Nat.zero_testBit]
      by_cases e : a = j
      · subst e; rw [hb]; rfl
      · simp [e]
    have h1 := or_add x (2 ^ a) (by omega) (by omega) hz (by omega)
    rw [← h1]
    apply Nat.eq_of_testBit_eq; intro j
    rw [Nat.testBit_or, Nat.testBit_xor, Nat.testBit_two_pow]
    by_cases e : a = j
    · subst e; rw [hb]; simp
    · simp [e]
  · have hb : x.testBit a = true := by rw [Nat.testBit_eq_decide_div_mod_eq]; simp [h]
    have hy : (x ^^^ 2 ^ a).testBit a = false := by rw [Nat.testBit_xor, hb, Nat.testBit_two_pow]; simp
    have hz : (x ^^^ 2 ^ a) &&& 2 ^ a = 0 := by
      apply Nat.eq_of_testBit_eq; intro j
      rw [Nat.testBit_and, Nat.testBit_two_pow, Nat.zero_testBit]
      by_cases e : a = j
      · subst e; rw [hy]; rfl
      · simp [e]
    have h1 := or_add (x ^^^ 2 ^ a) (2 ^ a) (by omega) (by omega) hz (by omega)
    have h2 : (x ^^^ 2 ^ a) ||| 2 ^ a = x := by
      apply Nat.eq_of_testBit_eq; intro j
      rw [Nat.testBit_or, Nat.testBit_xor, Nat.testBit_two_pow]
      by_cases e : a = j
      · subst e; rw [hb]; simp
      · simp [e]
    omega

theorem inP_succ {l : List (Int × Int)} {k : Nat} (h : k < l.length) (a : Int) : inP (l.take (k + 1)) a = (inP (l.take k) a || (decide (l[k].1 ≤ a) && decide (a < l[k].1 + l[k].2))) := by
  unfold inP
  rw [List.take_succ_eq_append_getElem h, List.any_append]
  simp
theorem plL_len : ∀ s : Fin 17, (plL s.val).length ≤ 5 ∧ ∀ p ∈ plL s.val, 0 ≤ p.1 ∧ p.1 ≤ 32 ∧ 0 ≤ p.2 ∧ p.2 ≤ 32 := by decide +kernel

end Go.Proofs.YtdeigbdcipkaaaaGreatDoor
