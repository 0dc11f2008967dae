/- line: the maker, plain, and its methods. -/
import Derived.Test.YthejefldnpeciaaGreatDoorzO8
import Derived.Test.YthejefldnpeciaaGreatDoorkI5
namespace Go.Proofs.YthejefldnpeciaaGreatDoor
set_option linter.unusedVariables false
set_option linter.unusedSimpArgs false
open Go.ChangeShapes Go.WideShapes Go.Deep Go.RowKit

structure Fm where
  kinds : List UInt8
  op : Int
  need : Int
def fmC (f : Fm) : List Value := [.string ⟨f.kinds.toArray⟩, .int .i64 f.op, .int .i64 f.need]
structure Nd where
  kind : Int
  sym : List UInt8
  add : Int
  minus : Bool
  v : Int
abbrev ndZ : Nd := ⟨0, [], 0, false, 0⟩
abbrev inZ : In := ⟨0, 0, 0, 0, 0, 0, 0, 0, 0, 0⟩
abbrev ndA (n : Nd) : Array Value := #[.int .i64 n.kind, .string ⟨n.sym.toArray⟩, .int .i64 n.add, .bool n.minus, .int .u64 n.v]
structure Mk where
  f : Fm
  i : In
  nd : Nd
  regs : Int
  wrong : Bool
  great : Bool
abbrev mkA (m : Mk) : Array Value := #[.string ⟨m.f.kinds.toArray⟩, .int .i64 m.f.op, .int .i64 m.f.need,
  .int .i64 m.i.op, .int .i64 m.i.d, .int .i64 m.i.n, .int .i64 m.i.m, .int .i64 m.i.a, .int .i64 m.i.imm, .int .u64 m.i.mask, .int .i64 m.i.shift, .int .i64 m.i.amount, .int .i64 m.i.cond,
  .int .i64 m.nd.kind, .string ⟨m.nd.sym.toArray⟩, .int .i64 m.nd.add, .bool m.nd.minus, .int .u64 m.nd.v, .int .i64 m.regs, .bool m.wrong, .bool m.great]
/-- The maker's block. -/
def MS (w : World) (p : Nat) (m : Mk) : Prop := RB w p (mkA m) 63
def MkP (p : Nat) (m : Mk) (w : World) (e : Ending) (w' : World) : Prop := e = .returned (.tuple #[]) ∧ MS w' p m ∧ KP p w w'
theorem MS.next {w w' : World} {p : Nat} {m : Mk} (h : MS w p m) (hb : Below w.heap.size w w') : MS w' p m := RB.next h hb
theorem MS.lay {w : World} {p : Nat} {m : Mk} (h : MS w p m) (o : Obj) : MS (w.alloc o) p m := RB.next h ((Below.refl _ _).alloc (Nat.le_refl _) o)
theorem MS.lt {w : World} {p : Nat} {m : Mk} (h : MS w p m) : p < w.heap.size := lt_of_block h
/-- The operand in its box, and the maker. -/
structure MO (w : World) (p X : Nat) (m : Mk) (o : Po) : Prop where
  m : MS w p m
  o : RB w X (poA o) 38
  ne : X ≠ p
theorem MO.mk0 {w : World} {p : Nat} {m : Mk} (h : MS w p m) (o : Po) : MO (w.alloc (.cells (poA o) 38)) p w.heap.size m o :=
  ⟨h.lay _, (MapKept.heap_alloc w _).1, by have := h.lt; omega⟩
theorem MO.next {w w' : World} {p X : Nat} {m : Mk} {o : Po} (h : MO w p X m o) (hb : Below w.heap.size w w') : MO w' p X m o := ⟨h.m.next hb, h.o.next hb, h.ne⟩
theorem MO.kept {w w' : World} {p X : Nat} {m m' : Mk} {o : Po} (h : MO w p X m o) (hk : KP p w w') (hm : MS w' p m') : MO w' p X m' o := ⟨hm, h.o.kept hk h.ne, h.ne⟩
theorem MO.set {w : World} {p X : Nat} {m m' : Mk} {o : Po} (h : MO w p X m o) (j : Nat) (v : Value) (e : (mkA m).setIfInBounds j v = mkA m') : MO (w.setCell ⟨p, j, none⟩ v) p X m' o :=
  h.kept (KP.step p w j v) (by show RB _ p (mkA m') _; rw [← e]; exact RB.set h.m v)
def stackM (op place : Int) : Bool :=
  if op = 4 ∨ op = 5 then place == 0 || place == 1 else if op = 6 ∨ op = 7 then place == 1 else if op = 8 ∨ op = 9 ∨ op = 10 then place == 0 else false
def checkM (m : Mk) (o : Po) (st : Bool) : Mk := if (o.reg == 31) = true ∧ (o.stack == st) = false then { m with wrong := true } else m
def signedM (m : Mk) (mi : Bool) (v : Int) : Mk := if (signS mi v).2 ≠ 0 then { m with great := true } else m
def putM (m : Mk) (place : Int) (r : Int) : Mk :=
  if place = 0 then { m with i := { m.i with d := r } } else if place = 1 then { m with i := { m.i with n := r } } else if place = 2 then { m with i := { m.i with m := r } } else if place = 3 then { m with i := { m.i with a := r } } else m
def placeM (m : Mk) : Int := if shapeI m.f.op = 13 then 1 else m.regs
def regM (m : Mk) (o : Po) : Mk := putM (checkM { m with regs := m.regs + 1 } o (stackM m.f.op (placeM m))) (placeM m) o.reg
def immM (m : Mk) (mi : Bool) (v : Int) : Mk := { signedM m mi v with i := { m.i with imm := (signS mi v).1 } }
def numberM (m : Mk) (o : Po) : Mk :=
  if shapeI m.f.op ≠ 3 then immM m o.minus o.v else if o.minus = true then { m with i := { m.i with mask := IntKind.u64.wrap (-o.v) } } else { m with i := { m.i with mask := o.v } }
def lackM (m : Mk) (o : Po) : Mk := { m with nd := ⟨m.f.need, o.sym, o.add, false, 0⟩ }
def condsT : List (List UInt8) := [[101, 113], [110, 101], [104, 115], [108, 111], [109, 105], [112, 108], [118, 115], [118, 99], [104, 105], [108, 115], [103, 101], [108, 116], [103, 116], [108, 101]]
def condM (s : List UInt8) : Int × Int := if s ∈ condsT then ((condsT.idxOf s : Nat), 0) else (0, 6)
def symbolM (m : Mk) (o : Po) : Mk :=
  if m.f.op ≠ 39 then lackM m o
  else { m with i := { m.i with cond := (condM o.sym).1 }, wrong := m.wrong || (condM o.sym).2 != 0 || o.add != 0 }
def memoryM (m : Mk) (o : Po) : Mk :=
  let m1 := checkM m o true
  let m2 : Mk := { m1 with i := { m1.i with n := o.reg } }
  if o.sym ≠ [] then lackM m2 o else immM m2 o.minus o.v
def shiftM (m : Mk) (o : Po) : Mk :=
  let m1 : Mk := { signedM m false o.v with i := { m.i with amount := (signS false o.v).1 } }
  if shapeI m.f.op = 4 ∨ shapeI m.f.op = 5 then { m1 with i := { m1.i with shift := o.reg } } else if o.reg ≠ 0 then { m1 with wrong := true } else m1
def poolM (m : Mk) (o : Po) : Mk := { m with nd := ⟨m.f.need, o.sym, o.add, o.minus, o.v⟩ }
def addM (m : Mk) (o : Po) : Mk :=
  if o.kind = 1 then regM m o else if o.kind = 2 then numberM m o else if o.kind = 3 then symbolM m o else if o.kind = 4 then memoryM m o else if o.kind = 5 then poolM m o else if o.kind = 6 then lackM m o else if o.kind = 7 then shiftM m o else m
theorem MkP.mk {p : Nat} {m : Mk} {w w' : World} (h : MS w' p m) (hk : KP p w w') : MkP p m w (.returned (.tuple #[])) w' := ⟨rfl, h, hk⟩

set_option maxRecDepth 100000 in
set_option maxHeartbeats 2000000 in
theorem check_any {w : World} {p : Nat} {m : Mk} (h : MS w p m) (o : Po) (st : Bool) :
    Calls Tryz.prog 74 #[.pointer (some ⟨p, 0, none⟩), .agg (poA o), .bool st] w (MkP p (checkM m o st) w) := by
  have H0 := MO.mk0 h o
  have HK : KP p w (w.alloc (.cells (poA o) 38)) := KP.lies (KP.refl _ _) _
  obtain ⟨c0, c1, c2, c3, c4, c5, c6, cf, cl⟩ := RB.seven H0.o
  have f19 : World.frozen? _ ⟨p, 19, none⟩ = false := RB.frozen H0.m
  have g19 : World.cell? _ ⟨p, 19, none⟩ = some (.bool m.wrong) := RB.cell H0.m
  by_cases h1 : (o.reg == 31) = true
  · by_cases h2 : (o.stack == st) = false
    · have HE : Hid (checkM m o st = { m with wrong := true }) := Lib.hid (by unfold checkM; rw [if_pos ⟨h1, h2⟩])
      have HS := Lib.hid (H0.set (m' := { m with wrong := true }) 19 (.bool true) rfl)
      have HK' := Lib.hid (KP.trans' HK (KP.step p _ 19 (.bool true)))
      clear H0 HK h
      go_enter Tryz.func74, Tryz.ntmps74
      go_wp2
      exact ⟨rfl, _, results_none rfl _ _ _, rfl, by rw [HE.out]; exact HS.out.m, HK'.out⟩
    · rw [Bool.not_eq_false] at h2
      have HE : Hid (checkM m o st = m) := Lib.hid (by unfold checkM; rw [if_neg (by rw [h2]; simp)])
      have HS := Lib.hid H0
      have HK' := Lib.hid HK
      clear H0 HK h
      go_enter Tryz.func74, Tryz.ntmps74
      go_wp2
      exact ⟨rfl, _, results_none rfl _ _ _, rfl, by rw [HE.out]; exact HS.out.m, HK'.out⟩
  · rw [Bool.not_eq_true] at h1
    have HE : Hid (checkM m o st = m) := Lib.hid (by unfold checkM; rw [if_neg (by rw [h1]; simp)])
    have HS := Lib.hid H0
    have HK' := Lib.hid HK
    clear H0 HK h
    go_enter Tryz.func74, Tryz.ntmps74
    go_wp2
    exact ⟨rfl, _, results_none rfl _ _ _, rfl, by rw [HE.out]; exact HS.out.m, HK'.out⟩
end Go.Proofs.YthejefldnpeciaaGreatDoor
