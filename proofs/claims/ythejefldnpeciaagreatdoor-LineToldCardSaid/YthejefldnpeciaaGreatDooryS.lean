/- line's laws: made. -/
import Derived.Test.YthejefldnpeciaaGreatDooryR
namespace Go.Proofs.YthejefldnpeciaaGreatDoor
set_option linter.unusedVariables false
set_option linter.unusedSimpArgs false
open Go.ChangeShapes Go.WideShapes Go.Deep Go.RowKit

def plainV (l : List UInt8) : Option (In × Nd × Int) := match plainOf l with | some ((nm, os), true) => some (makeL nm os) | _ => none
theorem Plain_val {l : List UInt8} {r : In × Nd × Int} (h : plainV l = some r) (hl : l.length ≤ 200) (hlow : (l.all fun b => decide (b.toNat < 128)) = true) (w : World) (hT : TabL w) :
    Calls Tryz.prog 23 #[.string ⟨l.toArray⟩] w (RetB (mkV r) w) := by
  unfold plainV at h
  split at h
  · rename_i nm os hp
    cases h
    exact Plain_is hp hl hlow w hT
  · cases h
theorem pv1 : plainV [97, 100, 100, 32, 120, 49, 44, 32, 115, 112, 44, 32, 35, 49, 44, 32, 108, 115, 108, 32, 35, 49, 50] = some (⟨4, 1, 31, 0, 0, 1, 0, 0, 12, 0⟩, ⟨0, [], 0, false, 0⟩, 0) := by kernel_rfl
theorem pv2 : plainV [98, 46, 110, 101, 32, 49, 98] = some (⟨31, 0, 0, 0, 0, 0, 0, 0, 0, 1⟩, ⟨3, [49, 98], 0, false, 0⟩, 0) := by kernel_rfl
theorem pv3 : plainV [108, 100, 114, 32, 120, 50, 44, 32, 61, 97, 43, 56] = some (⟨26, 2, 0, 0, 0, 0, 0, 0, 0, 0⟩, ⟨10, [97], 8, false, 0⟩, 0) := by kernel_rfl
theorem pv4 : plainV [109, 111, 118, 32, 120, 49, 44, 32, 120, 50] = some (⟨0, 0, 0, 0, 0, 0, 0, 0, 0, 0⟩, ⟨0, [], 0, false, 0⟩, 6) := by kernel_rfl
theorem pv5 : plainV [97, 100, 100, 32, 120, 49, 44, 32, 120, 122, 114, 44, 32, 35, 49] = some (⟨0, 0, 0, 0, 0, 0, 0, 0, 0, 0⟩, ⟨0, [], 0, false, 0⟩, 1) := by kernel_rfl
theorem pv6 : plainV [97, 100, 100, 32, 120, 49, 44, 32, 120, 50, 44, 32, 35, 52, 48, 57, 54] = some (⟨0, 0, 0, 0, 0, 0, 0, 0, 0, 0⟩, ⟨0, [], 0, false, 0⟩, 4) := by kernel_rfl
set_option maxRecDepth 100000 in
set_option maxHeartbeats 6000000 in
theorem made_is (w : World) (hT : TabL w) : Calls Tryz.prog 9 #[] w (RetB (.bool true) w) := by
  obtain ⟨i1, n1, e1, hi1, hn1, he1⟩ : ∃ i n e, i = (⟨4, 1, 31, 0, 0, 1, 0, 0, 12, 0⟩ : In) ∧ n = (⟨0, [], 0, false, 0⟩ : Nd) ∧ e = (0 : Int) := ⟨_, _, _, rfl, rfl, rfl⟩
  have HP1 : Hid (∀ u, Below w.heap.size w u → Calls Tryz.prog 23 #[.string ⟨#[97, 100, 100, 32, 120, 49, 44, 32, 115, 112, 44, 32, 35, 49, 44, 32, 108, 115, 108, 32, 35, 49, 50]⟩] u (RetB (mkV (i1, n1, e1)) u)) := Lib.hid fun u hu => by rw [hi1, hn1, he1]; exact Plain_val pv1 (by decide) (by decide) u (hT.next hu)
  obtain ⟨i2, n2, e2, hi2, hn2, he2⟩ : ∃ i n e, i = (⟨31, 0, 0, 0, 0, 0, 0, 0, 0, 1⟩ : In) ∧ n = (⟨3, [49, 98], 0, false, 0⟩ : Nd) ∧ e = (0 : Int) := ⟨_, _, _, rfl, rfl, rfl⟩
  have HP2 : Hid (∀ u, Below w.heap.size w u → Calls Tryz.prog 23 #[.string ⟨#[98, 46, 110, 101, 32, 49, 98]⟩] u (RetB (mkV (i2, n2, e2)) u)) := Lib.hid fun u hu => by rw [hi2, hn2, he2]; exact Plain_val pv2 (by decide) (by decide) u (hT.next hu)
  obtain ⟨i3, n3, e3, hi3, hn3, he3⟩ : ∃ i n e, i = (⟨26, 2, 0, 0, 0, 0, 0, 0, 0, 0⟩ : In) ∧ n = (⟨10, [97], 8, false, 0⟩ : Nd) ∧ e = (0 : Int) := ⟨_, _, _, rfl, rfl, rfl⟩
  have HP3 : Hid (∀ u, Below w.heap.size w u → Calls Tryz.prog 23 #[.string ⟨#[108, 100, 114, 32, 120, 50, 44, 32, 61, 97, 43, 56]⟩] u (RetB (mkV (i3, n3, e3)) u)) := Lib.hid fun u hu => by rw [hi3, hn3, he3]; exact Plain_val pv3 (by decide) (by decide) u (hT.next hu)
  obtain ⟨i4, n4, e4, hi4, hn4, he4⟩ : ∃ i n e, i = (⟨0, 0, 0, 0, 0, 0, 0, 0, 0, 0⟩ : In) ∧ n = (⟨0, [], 0, false, 0⟩ : Nd) ∧ e = (6 : Int) := ⟨_, _, _, rfl, rfl, rfl⟩
  have HP4 : Hid (∀ u, Below w.heap.size w u → Calls Tryz.prog 23 #[.string ⟨#[109, 111, 118, 32, 120, 49, 44, 32, 120, 50]⟩] u (RetB (mkV (i4, n4, e4)) u)) := Lib.hid fun u hu => by rw [hi4, hn4, he4]; exact Plain_val pv4 (by decide) (by decide) u (hT.next hu)
  obtain ⟨i5, n5, e5, hi5, hn5, he5⟩ : ∃ i n e, i = (⟨0, 0, 0, 0, 0, 0, 0, 0, 0, 0⟩ : In) ∧ n = (⟨0, [], 0, false, 0⟩ : Nd) ∧ e = (1 : Int) := ⟨_, _, _, rfl, rfl, rfl⟩
  have HP5 : Hid (∀ u, Below w.heap.size w u → Calls Tryz.prog 23 #[.string ⟨#[97, 100, 100, 32, 120, 49, 44, 32, 120, 122, 114, 44, 32, 35, 49]⟩] u (RetB (mkV (i5, n5, e5)) u)) := Lib.hid fun u hu => by rw [hi5, hn5, he5]; exact Plain_val pv5 (by decide) (by decide) u (hT.next hu)
  obtain ⟨i6, n6, e6, hi6, hn6, he6⟩ : ∃ i n e, i = (⟨0, 0, 0, 0, 0, 0, 0, 0, 0, 0⟩ : In) ∧ n = (⟨0, [], 0, false, 0⟩ : Nd) ∧ e = (4 : Int) := ⟨_, _, _, rfl, rfl, rfl⟩
  have HP6 : Hid (∀ u, Below w.heap.size w u → Calls Tryz.prog 23 #[.string ⟨#[97, 100, 100, 32, 120, 49, 44, 32, 120, 50, 44, 32, 35, 52, 48, 57, 54]⟩] u (RetB (mkV (i6, n6, e6)) u)) := Lib.hid fun u hu => by rw [hi6, hn6, he6]; exact Plain_val pv6 (by decide) (by decide) u (hT.next hu)
  have HQ1 : Hid ((∀ u, Sem.run Tryz.prog (binOp .eql 26 (.agg #[.int .i64 i1.op, .int .i64 i1.d, .int .i64 i1.n, .int .i64 i1.m, .int .i64 i1.a, .int .i64 i1.imm, .int .u64 i1.mask, .int .i64 i1.shift, .int .i64 i1.amount, .int .i64 i1.cond]) (.agg #[.int .i64 4, .int .i64 1, .int .i64 31, .int .i64 0, .int .i64 0, .int .i64 1, .int .u64 0, .int .i64 0, .int .i64 12, .int .i64 0])) u = .ok (.bool true) u) ∧ (∀ u, Sem.run Tryz.prog (binOp .eql 28 (.agg #[.int .i64 n1.kind, .string ⟨n1.sym.toArray⟩, .int .i64 n1.add, .bool n1.minus, .int .u64 n1.v]) (.agg #[.int .i64 0, .string ⟨#[]⟩, .int .i64 0, .bool false, .int .u64 0])) u = .ok (.bool true) u)) := Lib.hid (by rw [hi1, hn1]; exact ⟨fun u => by kernel_rfl, fun u => by kernel_rfl⟩)
  have HQ2 : Hid ((∀ u, Sem.run Tryz.prog (binOp .eql 26 (.agg #[.int .i64 i2.op, .int .i64 i2.d, .int .i64 i2.n, .int .i64 i2.m, .int .i64 i2.a, .int .i64 i2.imm, .int .u64 i2.mask, .int .i64 i2.shift, .int .i64 i2.amount, .int .i64 i2.cond]) (.agg #[.int .i64 31, .int .i64 0, .int .i64 0, .int .i64 0, .int .i64 0, .int .i64 0, .int .u64 0, .int .i64 0, .int .i64 0, .int .i64 1])) u = .ok (.bool true) u) ∧ (∀ u, Sem.run Tryz.prog (binOp .eql 28 (.agg #[.int .i64 n2.kind, .string ⟨n2.sym.toArray⟩, .int .i64 n2.add, .bool n2.minus, .int .u64 n2.v]) (.agg #[.int .i64 3, .string ⟨#[49, 98]⟩, .int .i64 0, .bool false, .int .u64 0])) u = .ok (.bool true) u)) := Lib.hid (by rw [hi2, hn2]; exact ⟨fun u => by kernel_rfl, fun u => by kernel_rfl⟩)
  have HQ3 : Hid ((∀ u, Sem.run Tryz.prog (binOp .eql 26 (.agg #[.int .i64 i3.op, .int .i64 i3.d, .int .i64 i3.n, .int .i64 i3.m, .int .i64 i3.a, .int .i64 i3.imm, .int .u64 i3.mask, .int .i64 i3.shift, .int .i64 i3.amount, .int .i64 i3.cond]) (.agg #[.int .i64 26, .int .i64 2, .int .i64 0, .int .i64 0, .int .i64 0, .int .i64 0, .int .u64 0, .int .i64 0, .int .i64 0, .int .i64 0])) u = .ok (.bool true) u) ∧ (∀ u, Sem.run Tryz.prog (binOp .eql 28 (.agg #[.int .i64 n3.kind, .string ⟨n3.sym.toArray⟩, .int .i64 n3.add, .bool n3.minus, .int .u64 n3.v]) (.agg #[.int .i64 10, .string ⟨#[97]⟩, .int .i64 8, .bool false, .int .u64 0])) u = .ok (.bool true) u)) := Lib.hid (by rw [hi3, hn3]; exact ⟨fun u => by kernel_rfl, fun u => by kernel_rfl⟩)
  have HEq : Hid ((e1 == 0) = true ∧ (e2 == e1) = true ∧ (e3 == e1) = true ∧ (e4 == 6) = true ∧ (e5 == 1) = true ∧ (e6 == 4) = true ∧ ((0 : Int) == e1) = true) := Lib.hid (by rw [he1, he2, he3, he4, he5, he6]; decide)
  have HC : Hid (∀ u, Below w.heap.size w u → Calls Tryz.prog 15 #[.int .i64 13] u (Ret (.tuple #[.string ⟨#[108, 101]⟩, .int .i64 0]) u)) := Lib.hid fun u hu => CondText_any 13 u (hT.next hu).2.2 (by unfold i64ok; omega)
  have HB : Hid (Below w.heap.size w w) := Lib.hid (Below.refl _ _)
  have hzi := zeroInst
  have hzn := zeroNeed
  clear hT hi1 hn1 he1 hi2 hn2 he2 hi3 hn3 he3 hi4 hn4 he4 hi5 hn5 he5 hi6 hn6 he6
  go_enter Tryz.func9, Tryz.ntmps9
  go_wp2_with fail
  refine (HP1.out _ HB.out).mono ?_
  rintro e u1 ⟨rfl, hb⟩
  replace HB := Lib.hid (after HB.out hb)
  clear hb HP1
  obtain ⟨X1, hX⟩ : ∃ X, X = u1.heap.size := ⟨_, rfl⟩
  obtain ⟨V1, hV⟩ : ∃ V, V = (u1.alloc (.cells (inC i1) 26)).alloc (.cells (ndA n1) 28) := ⟨_, rfl⟩
  have s1 : (u1.alloc (.cells (inC i1) 26)).heap.size = u1.heap.size + 1 := World.size_alloc _ _
  have b1 : Below u1.heap.size u1 (u1.alloc (.cells (inC i1) 26)) := (Below.refl _ _).alloc (Nat.le_refl _) _
  have b2 : Below (u1.alloc (.cells (inC i1) 26)).heap.size (u1.alloc (.cells (inC i1) 26)) V1 := by rw [hV]; exact (Below.refl _ _).alloc (Nat.le_refl _) _
  have b3 := after b1 b2
  replace HB := Lib.hid (after HB.out b3)
  have HR1 : Hid (RB V1 X1 (inC i1) 26) := Lib.hid (by rw [hX]; exact RB.next (MapKept.heap_alloc u1 _).1 b2)
  have HS1 : Hid (RB V1 (X1 + 1) (ndA n1) 28) := Lib.hid (by
    have := (MapKept.heap_alloc (u1.alloc (.cells (inC i1) 26)) (.cells (ndA n1) 28)).1
    rw [s1, ← hX, ← hV] at this
    exact this)
  have HV1 := Lib.hid hV.symm
  have HX1 := Lib.hid hX.symm
  clear hV hX s1 b1 b2 b3
  go_wp2_with fail
  rw [HV1.out, HX1.out]
  refine (HP2.out _ HB.out).mono ?_
  rintro e u2 ⟨rfl, hb⟩
  replace HB := Lib.hid (after HB.out hb)
  replace HR1 := Lib.hid (HR1.out.next hb)
  replace HS1 := Lib.hid (HS1.out.next hb)
  clear hb HP2
  obtain ⟨X2, hX⟩ : ∃ X, X = u2.heap.size := ⟨_, rfl⟩
  obtain ⟨V2, hV⟩ : ∃ V, V = (u2.alloc (.cells (inC i2) 26)).alloc (.cells (ndA n2) 28) := ⟨_, rfl⟩
  have s1 : (u2.alloc (.cells (inC i2) 26)).heap.size = u2.heap.size + 1 := World.size_alloc _ _
  have b1 : Below u2.heap.size u2 (u2.alloc (.cells (inC i2) 26)) := (Below.refl _ _).alloc (Nat.le_refl _) _
  have b2 : Below (u2.alloc (.cells (inC i2) 26)).heap.size (u2.alloc (.cells (inC i2) 26)) V2 := by rw [hV]; exact (Below.refl _ _).alloc (Nat.le_refl _) _
  have b3 := after b1 b2
  replace HB := Lib.hid (after HB.out b3)
  replace HR1 := Lib.hid (HR1.out.next b3)
  replace HS1 := Lib.hid (HS1.out.next b3)
  have HR2 : Hid (RB V2 X2 (inC i2) 26) := Lib.hid (by rw [hX]; exact RB.next (MapKept.heap_alloc u2 _).1 b2)
  have HS2 : Hid (RB V2 (X2 + 1) (ndA n2) 28) := Lib.hid (by
    have := (MapKept.heap_alloc (u2.alloc (.cells (inC i2) 26)) (.cells (ndA n2) 28)).1
    rw [s1, ← hX, ← hV] at this
    exact this)
  have HV2 := Lib.hid hV.symm
  have HX2 := Lib.hid hX.symm
  clear hV hX s1 b1 b2 b3
  go_wp2_with fail
  rw [HV2.out, HX2.out]
  refine (HP3.out _ HB.out).mono ?_
  rintro e u3 ⟨rfl, hb⟩
  replace HB := Lib.hid (after HB.out hb)
  replace HR1 := Lib.hid (HR1.out.next hb)
  replace HS1 := Lib.hid (HS1.out.next hb)
  replace HR2 := Lib.hid (HR2.out.next hb)
  replace HS2 := Lib.hid (HS2.out.next hb)
  clear hb HP3
  obtain ⟨X3, hX⟩ : ∃ X, X = u3.heap.size := ⟨_, rfl⟩
  obtain ⟨V3, hV⟩ : ∃ V, V = (u3.alloc (.cells (inC i3) 26)).alloc (.cells (ndA n3) 28) := ⟨_, rfl⟩
  have s1 : (u3.alloc (.cells (inC i3) 26)).heap.size = u3.heap.size + 1 := World.size_alloc _ _
  have b1 : Below u3.heap.size u3 (u3.alloc (.cells (inC i3) 26)) := (Below.refl _ _).alloc (Nat.le_refl _) _
  have b2 : Below (u3.alloc (.cells (inC i3) 26)).heap.size (u3.alloc (.cells (inC i3) 26)) V3 := by rw [hV]; exact (Below.refl _ _).alloc (Nat.le_refl _) _
  have b3 := after b1 b2
  replace HB := Lib.hid (after HB.out b3)
  replace HR1 := Lib.hid (HR1.out.next b3)
  replace HS1 := Lib.hid (HS1.out.next b3)
  replace HR2 := Lib.hid (HR2.out.next b3)
  replace HS2 := Lib.hid (HS2.out.next b3)
  have HR3 : Hid (RB V3 X3 (inC i3) 26) := Lib.hid (by rw [hX]; exact RB.next (MapKept.heap_alloc u3 _).1 b2)
  have HS3 : Hid (RB V3 (X3 + 1) (ndA n3) 28) := Lib.hid (by
    have := (MapKept.heap_alloc (u3.alloc (.cells (inC i3) 26)) (.cells (ndA n3) 28)).1
    rw [s1, ← hX, ← hV] at this
    exact this)
  have HV3 := Lib.hid hV.symm
  have HX3 := Lib.hid hX.symm
  clear hV hX s1 b1 b2 b3
  go_wp2_with fail
  rw [HV3.out, HX3.out]
  refine (HP4.out _ HB.out).mono ?_
  rintro e u4 ⟨rfl, hb⟩
  replace HB := Lib.hid (after HB.out hb)
  replace HR1 := Lib.hid (HR1.out.next hb)
  replace HS1 := Lib.hid (HS1.out.next hb)
  replace HR2 := Lib.hid (HR2.out.next hb)
  replace HS2 := Lib.hid (HS2.out.next hb)
  replace HR3 := Lib.hid (HR3.out.next hb)
  replace HS3 := Lib.hid (HS3.out.next hb)
  clear hb HP4
  obtain ⟨X4, hX⟩ : ∃ X, X = u4.heap.size := ⟨_, rfl⟩
  obtain ⟨V4, hV⟩ : ∃ V, V = (u4.alloc (.cells (inC i4) 26)).alloc (.cells (ndA n4) 28) := ⟨_, rfl⟩
  have s1 : (u4.alloc (.cells (inC i4) 26)).heap.size = u4.heap.size + 1 := World.size_alloc _ _
  have b1 : Below u4.heap.size u4 (u4.alloc (.cells (inC i4) 26)) := (Below.refl _ _).alloc (Nat.le_refl _) _
  have b2 : Below (u4.alloc (.cells (inC i4) 26)).heap.size (u4.alloc (.cells (inC i4) 26)) V4 := by rw [hV]; exact (Below.refl _ _).alloc (Nat.le_refl _) _
  have b3 := after b1 b2
  replace HB := Lib.hid (after HB.out b3)
  replace HR1 := Lib.hid (HR1.out.next b3)
  replace HS1 := Lib.hid (HS1.out.next b3)
  replace HR2 := Lib.hid (HR2.out.next b3)
  replace HS2 := Lib.hid (HS2.out.next b3)
  replace HR3 := Lib.hid (HR3.out.next b3)
  replace HS3 := Lib.hid (HS3.out.next b3)
  have HV4 := Lib.hid hV.symm
  have HX4 := Lib.hid hX.symm
  clear hV hX s1 b1 b2 b3
  go_wp2_with fail
  rw [HV4.out, HX4.out]
  refine (HP5.out _ HB.out).mono ?_
  rintro e u5 ⟨rfl, hb⟩
  replace HB := Lib.hid (after HB.out hb)
  replace HR1 := Lib.hid (HR1.out.next hb)
  replace HS1 := Lib.hid (HS1.out.next hb)
  replace HR2 := Lib.hid (HR2.out.next hb)
  replace HS2 := Lib.hid (HS2.out.next hb)
  replace HR3 := Lib.hid (HR3.out.next hb)
  replace HS3 := Lib.hid (HS3.out.next hb)
  clear hb HP5
  obtain ⟨X5, hX⟩ : ∃ X, X = u5.heap.size := ⟨_, rfl⟩
  obtain ⟨V5, hV⟩ : ∃ V, V = (u5.alloc (.cells (inC i5) 26)).alloc (.cells (ndA n5) 28) := ⟨_, rfl⟩
  have s1 : (u5.alloc (.cells (inC i5) 26)).heap.size = u5.heap.size + 1 := World.size_alloc _ _
  have b1 : Below u5.heap.size u5 (u5.alloc (.cells (inC i5) 26)) := (Below.refl _ _).alloc (Nat.le_refl _) _
  have b2 : Below (u5.alloc (.cells (inC i5) 26)).heap.size (u5.alloc (.cells (inC i5) 26)) V5 := by rw [hV]; exact (Below.refl _ _).alloc (Nat.le_refl _) _
  have b3 := after b1 b2
  replace HB := Lib.hid (after HB.out b3)
  replace HR1 := Lib.hid (HR1.out.next b3)
  replace HS1 := Lib.hid (HS1.out.next b3)
  replace HR2 := Lib.hid (HR2.out.next b3)
  replace HS2 := Lib.hid (HS2.out.next b3)
  replace HR3 := Lib.hid (HR3.out.next b3)
  replace HS3 := Lib.hid (HS3.out.next b3)
  have HV5 := Lib.hid hV.symm
  have HX5 := Lib.hid hX.symm
  clear hV hX s1 b1 b2 b3
  go_wp2_with fail
  rw [HV5.out, HX5.out]
  refine (HP6.out _ HB.out).mono ?_
  rintro e u6 ⟨rfl, hb⟩
  replace HB := Lib.hid (after HB.out hb)
  replace HR1 := Lib.hid (HR1.out.next hb)
  replace HS1 := Lib.hid (HS1.out.next hb)
  replace HR2 := Lib.hid (HR2.out.next hb)
  replace HS2 := Lib.hid (HS2.out.next hb)
  replace HR3 := Lib.hid (HR3.out.next hb)
  replace HS3 := Lib.hid (HS3.out.next hb)
  clear hb HP6
  obtain ⟨X6, hX⟩ : ∃ X, X = u6.heap.size := ⟨_, rfl⟩
  obtain ⟨V6, hV⟩ : ∃ V, V = (u6.alloc (.cells (inC i6) 26)).alloc (.cells (ndA n6) 28) := ⟨_, rfl⟩
  have s1 : (u6.alloc (.cells (inC i6) 26)).heap.size = u6.heap.size + 1 := World.size_alloc _ _
  have b1 : Below u6.heap.size u6 (u6.alloc (.cells (inC i6) 26)) := (Below.refl _ _).alloc (Nat.le_refl _) _
  have b2 : Below (u6.alloc (.cells (inC i6) 26)).heap.size (u6.alloc (.cells (inC i6) 26)) V6 := by rw [hV]; exact (Below.refl _ _).alloc (Nat.le_refl _) _
  have b3 := after b1 b2
  replace HB := Lib.hid (after HB.out b3)
  replace HR1 := Lib.hid (HR1.out.next b3)
  replace HS1 := Lib.hid (HS1.out.next b3)
  replace HR2 := Lib.hid (HR2.out.next b3)
  replace HS2 := Lib.hid (HS2.out.next b3)
  replace HR3 := Lib.hid (HR3.out.next b3)
  replace HS3 := Lib.hid (HS3.out.next b3)
  have HV6 := Lib.hid hV.symm
  have HX6 := Lib.hid hX.symm
  clear hV hX s1 b1 b2 b3
  go_wp2_with fail
  rw [HV6.out, HX6.out]
  refine (HC.out _ HB.out).mono ?_
  rintro e w' ⟨rfl, rfl⟩
  obtain ⟨x10, x11, x12, x13, x14, x15, x16, x17, x18, x19, -⟩ := ten_cells HR1.out
  obtain ⟨y10, y11, y12, y13, y14, -⟩ := five_cells HS1.out
  obtain ⟨q1, p1⟩ := HQ1.out
  obtain ⟨x20, x21, x22, x23, x24, x25, x26, x27, x28, x29, -⟩ := ten_cells HR2.out
  obtain ⟨y20, y21, y22, y23, y24, -⟩ := five_cells HS2.out
  obtain ⟨q2, p2⟩ := HQ2.out
  obtain ⟨x30, x31, x32, x33, x34, x35, x36, x37, x38, x39, -⟩ := ten_cells HR3.out
  obtain ⟨y30, y31, y32, y33, y34, -⟩ := five_cells HS3.out
  obtain ⟨q3, p3⟩ := HQ3.out
  obtain ⟨t1, t2, t3, t4, t5, t6, t7⟩ := HEq.out
  go_wp2
  go_ret
  exact ⟨rfl, HB.out⟩
end Go.Proofs.YthejefldnpeciaaGreatDoor
