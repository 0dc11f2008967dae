/- inst.own, shape by shape. -/
import Derived.Test.YtdeigbdcipkaaaaGreatDoorS
import Derived.RegionTactic
import Derived.ChangeAlike
import Derived.Deep.QuietTactic
import Derived.BigQuiet
import Derived.Outline
namespace Go.Proofs.YtdeigbdcipkaaaaGreatDoor
set_option linter.unusedVariables false
set_option linter.unusedSimpArgs false
open Go.RowKit

structure In where
  op : Int
  d : Int
  n : Int
  m : Int
  a : Int
  imm : Int
  mask : Int
  shift : Int
  amount : Int
  cond : Int
abbrev inC (i : In) : Array Value := #[.int .i64 i.op, .int .i64 i.d, .int .i64 i.n, .int .i64 i.m, .int .i64 i.a, .int .i64 i.imm, .int .u64 i.mask, .int .i64 i.shift, .int .i64 i.amount, .int .i64 i.cond]
abbrev inV (i : In) : Value := .agg (inC i)
def hasDb (s : Int) : Bool := (decide (1 ≤ s) && decide (s ≤ 10)) || s == 16
def hasNb (s : Int) : Bool := (decide (2 ≤ s) && decide (s ≤ 8)) || s == 13 || s == 16
def hasMb (s : Int) : Bool := (decide (4 ≤ s) && decide (s ≤ 6)) || s == 16
def pick (b : Bool) (x : Int) : Int := if b then x else 0
/-- An instruction with the fields of its shape alone. -/
def ownI (s : Int) (i : In) : In :=
  { op := i.op, d := pick (hasDb s) i.d, n := pick (hasNb s) i.n, m := pick (hasMb s) i.m, a := pick (s == 6) i.a,
    imm := pick (s == 1 || s == 2 || s == 7 || s == 8 || s == 9 || s == 10 || s == 11 || s == 14 || s == 12) i.imm,
    mask := pick (s == 3) i.mask, shift := pick (s == 4 || s == 5) i.shift, amount := pick (s == 1 || s == 2 || s == 4 || s == 5) i.amount, cond := pick (s == 12 || s == 16) i.cond }

set_option maxRecDepth 100000 in
set_option maxHeartbeats 4000000 in
theorem own_any (s : Int) (i : In) (w : World) (h1 : 1 ≤ s) (h2 : s ≤ 16) : Calls Tryz.prog 54 #[inV i, .int .i64 s] w (RetB (inV (ownI s i)) w) := by
  obtain ⟨o, d, n, m, a, x, k, h, t, c⟩ := i
  have hc : s = 1 ∨ s = 2 ∨ s = 3 ∨ s = 4 ∨ s = 5 ∨ s = 6 ∨ s = 7 ∨ s = 8 ∨ s = 9 ∨ s = 10 ∨ s = 11 ∨ s = 12 ∨ s = 13 ∨ s = 14 ∨ s = 15 ∨ s = 16 := by omega
  clear h1 h2
  rcases hc with rfl | rfl | rfl | rfl | rfl | rfl | rfl | rfl | rfl | rfl | rfl | rfl | rfl | rfl | rfl | rfl
  all_goals
    go_enter Tryz.func54, Tryz.ntmps54
    go_wp2
    try (go_region; all_goals go_wp2)
    all_goals
      refine bodyPost_ret (v := inV (ownI _ ⟨o, d, n, m, a, x, k, h, t, c⟩)) (by simp [results, Tryz.results54, go_sem, ownI, pick, hasDb, hasNb, hasMb]) rfl ⟨rfl, ?_⟩
      first
      | exact (((Below.refl w.heap.size w).alloc (Nat.le_refl _) _).alloc (by simp) _).alloc (by simp; omega) _
      | exact ((((Below.refl w.heap.size w).alloc (Nat.le_refl _) _).alloc (by simp) _).alloc (by simp; omega) _).drew
end Go.Proofs.YtdeigbdcipkaaaaGreatDoor
