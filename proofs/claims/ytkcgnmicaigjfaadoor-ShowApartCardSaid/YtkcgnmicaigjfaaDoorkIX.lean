/- inst.own, shape by shape. inst.Shape, registers, numbers. -/
import Derived.Test.YtkcgnmicaigjfaaDoorS
import Derived.RegionTactic
import Derived.ChangeAlike
import Derived.Deep.QuietTactic
import Derived.BigQuiet
import Derived.Outline
import Derived.Test.YtkcgnmicaigjfaaDoorkBW
namespace Go.Proofs.YtkcgnmicaigjfaaDoor
set_option linter.unusedVariables false
set_option linter.unusedSimpArgs false
open Go.RowKit

structure In where
  op : Int
  d : Int
  n : Int
  m : Int
  a : Int
  imm : Int
  mask : Int
  shift : Int
  amount : Int
  cond : Int
abbrev inC (i : In) : Array Value := #[.int .i64 i.op, .int .i64 i.d, .int .i64 i.n, .int .i64 i.m, .int .i64 i.a, .int .i64 i.imm, .int .u64 i.mask, .int .i64 i.shift, .int .i64 i.amount, .int .i64 i.cond]
abbrev inV (i : In) : Value := .agg (inC i)
def hasDb (s : Int) : Bool := (decide (1 ≤ s) && decide (s ≤ 10)) || s == 16
def hasNb (s : Int) : Bool := (decide (2 ≤ s) && decide (s ≤ 8)) || s == 13 || s == 16
def hasMb (s : Int) : Bool := (decide (4 ≤ s) && decide (s ≤ 6)) || s == 16
def pick (b : Bool) (x : Int) : Int := if b then x else 0
/-- An instruction with the fields of its shape alone. -/
def ownI (s : Int) (i : In) : In :=
  { op := i.op, d := pick (hasDb s) i.d, n := pick (hasNb s) i.n, m := pick (hasMb s) i.m, a := pick (s == 6) i.a,
    imm := pick (s == 1 || s == 2 || s == 7 || s == 8 || s == 9 || s == 10 || s == 11 || s == 14 || s == 12) i.imm,
    mask := pick (s == 3) i.mask, shift := pick (s == 4 || s == 5) i.shift, amount := pick (s == 1 || s == 2 || s == 4 || s == 5) i.amount, cond := pick (s == 12 || s == 16) i.cond }

set_option maxRecDepth 100000 in
set_option maxHeartbeats 4000000 in
theorem own_any (s : Int) (i : In) (w : World) (h1 : 1 ≤ s) (h2 : s ≤ 16) : Calls Tryd.prog 18 #[inV i, .int .i64 s] w (RetB (inV (ownI s i)) w) := by
  obtain ⟨o, d, n, m, a, x, k, h, t, c⟩ := i
  have hc : s = 1 ∨ s = 2 ∨ s = 3 ∨ s = 4 ∨ s = 5 ∨ s = 6 ∨ s = 7 ∨ s = 8 ∨ s = 9 ∨ s = 10 ∨ s = 11 ∨ s = 12 ∨ s = 13 ∨ s = 14 ∨ s = 15 ∨ s = 16 := by omega
  clear h1 h2
  rcases hc with rfl | rfl | rfl | rfl | rfl | rfl | rfl | rfl | rfl | rfl | rfl | rfl | rfl | rfl | rfl | rfl
  all_goals
    go_enter Tryd.func18, Tryd.ntmps18
    go_wp2
    try (go_region; all_goals go_wp2)
    all_goals
      refine bodyPost_ret (v := inV (ownI _ ⟨o, d, n, m, a, x, k, h, t, c⟩)) (by simp [results, Tryd.results18, go_sem, ownI, pick, hasDb, hasNb, hasMb]) rfl ⟨rfl, ?_⟩
      first
      | exact (((Below.refl w.heap.size w).alloc (Nat.le_refl _) _).alloc (by simp) _).alloc (by simp; omega) _
      | exact ((((Below.refl w.heap.size w).alloc (Nat.le_refl _) _).alloc (by simp) _).alloc (by simp; omega) _).drew

def withinI (n l m s : Int) : Bool := decide (l ≤ n) && decide (n ≤ m) && (n.tmod s == 0)
set_option maxHeartbeats 400000 in
theorem within_any (n l m s : Int) (w : World) (hs : 0 < s) (hn : -9223372036854775808 ≤ n ∧ n ≤ 9223372036854775807) : Calls Tryd.prog 37 #[.int .i64 n, .int .i64 l, .int .i64 m, .int .i64 s] w (Ret (.bool (withinI n l m s)) w) := by
  have hs0 : (s == 0) = false := by rw [beq_eq_false_iff_ne]; omega
  unfold withinI
  by_cases h1 : l ≤ n
  · rw [decide_eq_true h1]
    by_cases h2 : n ≤ m
    · rw [decide_eq_true h2]
      go_enter Tryd.func37, Tryd.ntmps37
      go_wp2
      go_ret
      exact ret_bool (by simp)
    · rw [decide_eq_false h2]
      go_enter Tryd.func37, Tryd.ntmps37
      go_wp2
      go_ret
      exact ret_bool rfl
  · rw [decide_eq_false h1]
    go_enter Tryd.func37, Tryd.ntmps37
    go_wp2
    go_ret
    exact ret_bool rfl

def regsI (i : In) : Bool := decide (0 ≤ i.d ∧ i.d ≤ 31 ∧ 0 ≤ i.n ∧ i.n ≤ 31 ∧ 0 ≤ i.m ∧ i.m ≤ 31 ∧ 0 ≤ i.a ∧ i.a ≤ 31)
set_option maxRecDepth 100000 in
set_option maxHeartbeats 1000000 in
theorem registers_any (i : In) (w : World) : Calls Tryd.prog 19 #[inV i] w (RetB (.bool (regsI i)) w) := by
  obtain ⟨o, d, n, m, a, x, k, h, t, c⟩ := i
  have i0 : ∀ w, (Instr.index 68 (.agg #[.int .i64 d, .int .i64 n, .int .i64 m, .int .i64 a]) (.int .i64 0)).run Tryd.prog w = .ok (.int .i64 d) w := fun _ => by kernel_rfl
  have i1 : ∀ w, (Instr.index 68 (.agg #[.int .i64 d, .int .i64 n, .int .i64 m, .int .i64 a]) (.int .i64 1)).run Tryd.prog w = .ok (.int .i64 n) w := fun _ => by kernel_rfl
  have i2 : ∀ w, (Instr.index 68 (.agg #[.int .i64 d, .int .i64 n, .int .i64 m, .int .i64 a]) (.int .i64 2)).run Tryd.prog w = .ok (.int .i64 m) w := fun _ => by kernel_rfl
  have i3 : ∀ w, (Instr.index 68 (.agg #[.int .i64 d, .int .i64 n, .int .i64 m, .int .i64 a]) (.int .i64 3)).run Tryd.prog w = .ok (.int .i64 a) w := fun _ => by kernel_rfl
  go_enter Tryd.func19, Tryd.ntmps19
  go_wp2
  refine wp_loop_rounds 5 ?_
  rw [rounds_succ]
  go_wp2
  all_goals (try (rw [rounds_succ]; go_wp2))
  all_goals (try (rw [rounds_succ]; go_wp2))
  all_goals (try (rw [rounds_succ]; go_wp2))
  all_goals (try (rw [rounds_succ]; go_wp2))
  all_goals
    go_ret
    refine retB_bool ?_ ((Below.refl _ _).alloc (Nat.le_refl _) _)
    symm
    unfold regsI
    first
    | (apply decide_eq_true; simp only []; omega)
    | (apply decide_eq_false; simp only []; omega)

/-- What is no register is as the shape asks. -/
def numI (s : Int) (i : In) : Bool :=
  if s = 1 then withinI i.imm 0 65535 1 && withinI i.amount 0 48 16
  else if s = 2 then withinI i.imm 0 4095 1 && withinI i.amount 0 12 12
  else if s = 3 then isS i.mask.toNat
  else if s = 4 then withinI i.shift 0 2 1 && withinI i.amount 0 63 1
  else if s = 5 then withinI i.shift 0 3 1 && withinI i.amount 0 63 1
  else if s = 7 then withinI i.imm 0 32760 8
  else if s = 8 then withinI i.imm 0 4095 1
  else if s = 9 then withinI i.imm (-1048576) 1048572 4
  else if s = 10 then withinI i.imm (-1048576) 1048575 1
  else if s = 11 then withinI i.imm (-134217728) 134217724 4
  else if s = 12 then withinI i.imm (-1048576) 1048572 4 && withinI i.cond 0 13 1
  else if s = 14 then withinI i.imm 0 65535 1
  else if s = 16 then withinI i.cond 0 13 1
  else true
def i64B (x : Int) : Prop := -9223372036854775808 ≤ x ∧ x ≤ 9223372036854775807
structure InB (i : In) : Prop where
  op : i64B i.op
  d : i64B i.d
  n : i64B i.n
  m : i64B i.m
  a : i64B i.a
  imm : i64B i.imm
  mask : 0 ≤ i.mask ∧ i.mask < 18446744073709551616
  shift : i64B i.shift
  amount : i64B i.amount
  cond : i64B i.cond

set_option maxRecDepth 100000 in
set_option maxHeartbeats 4000000 in
theorem numbers_any (s : Int) (i : In) (w : World) (h1 : 1 ≤ s) (h2 : s ≤ 16) (hi : InB i) (hT : Tab w) : Calls Tryd.prog 20 #[inV i, .int .i64 s] w (RetB (.bool (numI s i)) w) := by
  obtain ⟨o, d, n, m, a, x, k, h, t, c⟩ := i
  have W1 : Hid (∀ l m s w, 0 < s → Calls Tryd.prog 37 #[.int .i64 x, .int .i64 l, .int .i64 m, .int .i64 s] w (Ret (.bool (withinI x l m s)) w)) := Lib.hid fun l m s w hs => within_any x l m s w hs hi.imm
  have W2 : Hid (∀ l m s w, 0 < s → Calls Tryd.prog 37 #[.int .i64 t, .int .i64 l, .int .i64 m, .int .i64 s] w (Ret (.bool (withinI t l m s)) w)) := Lib.hid fun l m s w hs => within_any t l m s w hs hi.amount
  have W3 : Hid (∀ l m s w, 0 < s → Calls Tryd.prog 37 #[.int .i64 h, .int .i64 l, .int .i64 m, .int .i64 s] w (Ret (.bool (withinI h l m s)) w)) := Lib.hid fun l m s w hs => within_any h l m s w hs hi.shift
  have W4 : Hid (∀ l m s w, 0 < s → Calls Tryd.prog 37 #[.int .i64 c, .int .i64 l, .int .i64 m, .int .i64 s] w (Ret (.bool (withinI c l m s)) w)) := Lib.hid fun l m s w hs => within_any c l m s w hs hi.cond
  obtain ⟨v, rfl⟩ := Int.eq_ofNat_of_zero_le (show 0 ≤ k from hi.mask.1)
  have HI : Hid (∀ w, Tab w → Calls Tryd.prog 38 #[.int .u64 v] w (RetB (.bool (isS v)) w)) := Lib.hid fun w hw => Is_any v w (by have := hi.mask.2; simp only [] at this; omega) hw
  have HT := Lib.hid hT
  have hc : s = 1 ∨ s = 2 ∨ s = 3 ∨ s = 4 ∨ s = 5 ∨ s = 6 ∨ s = 7 ∨ s = 8 ∨ s = 9 ∨ s = 10 ∨ s = 11 ∨ s = 12 ∨ s = 13 ∨ s = 14 ∨ s = 15 ∨ s = 16 := by omega
  have HB := Lib.hid ((Below.refl w.heap.size w).alloc (Nat.le_refl _) (.cells (inC ⟨o, d, n, m, a, x, v, h, t, c⟩) 24))
  clear h1 h2 hi hT
  rcases hc with rfl | rfl | rfl | rfl | rfl | rfl | rfl | rfl | rfl | rfl | rfl | rfl | rfl | rfl | rfl | rfl
  all_goals
    go_enter Tryd.func20, Tryd.ntmps20
    go_wp2_with (first | (go_at_call 37; ((with_reducible refine (W1.out _ _ _ _ (by decide)).mono ?_); rintro e w' ⟨rfl, rfl⟩)) | (go_at_call 37; ((with_reducible refine (W2.out _ _ _ _ (by decide)).mono ?_); rintro e w' ⟨rfl, rfl⟩)) | (go_at_call 37; ((with_reducible refine (W3.out _ _ _ _ (by decide)).mono ?_); rintro e w' ⟨rfl, rfl⟩)) | (go_at_call 37; ((with_reducible refine (W4.out _ _ _ _ (by decide)).mono ?_); rintro e w' ⟨rfl, rfl⟩)) | (go_at_call 38; ((with_reducible refine (HI.out _ (HT.out.below HB.out HT.out.2)).mono ?_); rintro e w' ⟨rfl, hb⟩; replace HB := Lib.hid (after HB.out hb); clear hb)))
    all_goals
      go_ret
      refine retB_bool ?_ HB.out
      first
      | rfl
      | (simp [numI]; done)
      | (simp [numI, *]; done)
end Go.Proofs.YtkcgnmicaigjfaaDoor
