/- line: the maker's methods, the others. -/
import Derived.Test.YthejefldnpeciaaGreatDooryD
namespace Go.Proofs.YthejefldnpeciaaGreatDoor
set_option linter.unusedVariables false
set_option linter.unusedSimpArgs false
open Go.ChangeShapes Go.WideShapes Go.Deep Go.RowKit

def u64ok (v : Int) : Prop := 0 ≤ v ∧ v < 18446744073709551616
set_option maxRecDepth 100000 in
set_option maxHeartbeats 3000000 in
theorem number_imm {w : World} {p : Nat} {m : Mk} (h : MS w p m) (hT : TL w p) (o : Po) (hv : u64ok o.v) (hs : ¬ shapeI m.f.op = 3) :
    Calls Tryz.prog 42 #[.pointer (some ⟨p, 0, none⟩), .agg (poA o)] w (MkP p (numberM m o) w) := by
  have H0 := MO.mk0 h o
  have HK : KP p w (w.alloc (.cells (poA o) 38)) := KP.lies (KP.refl _ _) _
  have hTW : TL (w.alloc (.cells (poA o) 38)) p := hT.kept HK
  have g1a : World.cell? (w.alloc (.cells (poA o) 38)) ⟨p, 1, none⟩ = some (.int .i64 m.f.op) := H0.m.mc.c1
  obtain ⟨W, hW⟩ : ∃ W, W = w.alloc (.cells (poA o) 38) := ⟨_, rfl⟩
  obtain ⟨X, hX⟩ : ∃ X, X = w.heap.size := ⟨_, rfl⟩
  rw [← hW, ← hX] at H0
  rw [← hW] at HK hTW
  have HW := Lib.hid hW.symm
  have HX := Lib.hid hX.symm
  have HSh : Hid (Calls Tryz.prog 14 #[.int .i64 m.f.op] W (Ret (.int .i64 (shapeI m.f.op)) W)) := Lib.hid (Shape_any _ W hTW.tab.1)
  have HSg : Hid (Calls Tryz.prog 76 #[.pointer (some ⟨p, 0, none⟩), .bool o.minus, .int .u64 o.v] W (SgP p (signedM m o.minus o.v) (signS o.minus o.v).1 W)) := Lib.hid (signed_any H0.m o.minus o.v hv.1 hv.2)
  have HE : Hid (numberM m o = { signedM m o.minus o.v with i := { m.i with imm := (signS o.minus o.v).1 } }) := Lib.hid (by unfold numberM; rw [if_pos hs]; rfl)
  have HI : Hid ((signedM m o.minus o.v).i = m.i) := Lib.hid (by unfold signedM; split <;> rfl)
  have t3 : (shapeI m.f.op == 3) = false := by simpa using hs
  generalize signedM m o.minus o.v = m1 at *
  generalize (signS o.minus o.v).1 = a at *
  generalize shapeI m.f.op = sh at *
  have HO := Lib.hid H0
  have HKW := Lib.hid HK
  clear H0 HK hTW h hT hW hX hv hs
  go_enter Tryz.func42, Tryz.ntmps42
  go_wp2_with fail
  rw [HW.out, HX.out]
  refine HSh.out.mono ?_
  rintro e w' ⟨rfl, rfl⟩
  obtain ⟨c0, c1, c2, c3, c4, c5, c6, cf, cl⟩ := RB.seven HO.out.o
  clear g1a
  go_wp2_with fail
  refine HSg.out.mono ?_
  rintro e u ⟨rfl, hm, hk⟩
  have HU := Lib.hid (HO.out.kept hk hm)
  have HKU := Lib.hid (KP.trans' HKW.out hk)
  clear hm hk c0 c1 c2 c3 c4 c5 c6 cf cl
  have q := HU.out.m.mc
  obtain ⟨v8, k8⟩ := q.k 8 (by decide)
  have f8 := q.f 8
  have HN := Lib.hid (HU.out.set (m' := { m1 with i := { m1.i with imm := a } }) 8 (.int .i64 a) rfl)
  have HKN := Lib.hid (KP.trans' HKU.out (KP.step p u 8 (.int .i64 a)))
  clear q
  go_wp2
  exact ⟨rfl, _, results_none rfl _ _ _, rfl, by rw [HE.out, ← HI.out]; exact HN.out.m, HKN.out⟩
set_option maxRecDepth 100000 in
set_option maxHeartbeats 3000000 in
theorem number_mask {w : World} {p : Nat} {m : Mk} (h : MS w p m) (hT : TL w p) (o : Po) (hs : shapeI m.f.op = 3) :
    Calls Tryz.prog 42 #[.pointer (some ⟨p, 0, none⟩), .agg (poA o)] w (MkP p (numberM m o) w) := by
  have H0 := MO.mk0 h o
  have HK : KP p w (w.alloc (.cells (poA o) 38)) := KP.lies (KP.refl _ _) _
  have hTW : TL (w.alloc (.cells (poA o) 38)) p := hT.kept HK
  have g1a : World.cell? (w.alloc (.cells (poA o) 38)) ⟨p, 1, none⟩ = some (.int .i64 m.f.op) := H0.m.mc.c1
  obtain ⟨W, hW⟩ : ∃ W, W = w.alloc (.cells (poA o) 38) := ⟨_, rfl⟩
  obtain ⟨X, hX⟩ : ∃ X, X = w.heap.size := ⟨_, rfl⟩
  rw [← hW, ← hX] at H0
  rw [← hW] at HK hTW
  have HW := Lib.hid hW.symm
  have HX := Lib.hid hX.symm
  have HSh : Hid (Calls Tryz.prog 14 #[.int .i64 m.f.op] W (Ret (.int .i64 3) W)) := Lib.hid (by have := Shape_any m.f.op W hTW.tab.1; rwa [hs] at this)
  have H1 := H0.set (m' := { m with i := { m.i with mask := o.v } }) 9 (.int .u64 o.v) rfl
  have HK1 := KP.trans' HK (KP.step p W 9 (.int .u64 o.v))
  have H2 := Lib.hid (H1.set (m' := { m with i := { m.i with mask := IntKind.u64.wrap (-o.v) } }) 9 (.int .u64 (IntKind.u64.wrap (-o.v))) rfl)
  have HK2 := Lib.hid (KP.trans' HK1 (KP.step p _ 9 (.int .u64 (IntKind.u64.wrap (-o.v)))))
  have HE1 : Hid (o.minus = false → numberM m o = { m with i := { m.i with mask := o.v } }) := Lib.hid (fun hm => by unfold numberM; rw [if_neg (by rw [hs]; simp), if_neg (by rw [hm]; simp)])
  have HE2 : Hid (o.minus = true → numberM m o = { m with i := { m.i with mask := IntKind.u64.wrap (-o.v) } }) := Lib.hid (fun hm => by unfold numberM; rw [if_neg (by rw [hs]; simp), if_pos hm])
  have HO := Lib.hid H0
  have HO1 := Lib.hid H1
  have HKW := Lib.hid HK1
  clear H0 HK hTW h hT hW hX hs H1 HK1
  obtain ⟨V, hV⟩ : ∃ V, V = W.setCell ⟨p, 9, none⟩ (.int .u64 o.v) := ⟨_, rfl⟩
  have HV := Lib.hid hV.symm
  rw [← hV] at HO1 HKW H2 HK2
  clear hV
  go_enter Tryz.func42, Tryz.ntmps42
  go_wp2_with fail
  rw [HW.out, HX.out]
  refine HSh.out.mono ?_
  rintro e w' ⟨rfl, rfl⟩
  obtain ⟨c0, c1, c2, c3, c4, c5, c6, cf, cl⟩ := RB.seven HO.out.o
  have q := HO.out.m.mc
  obtain ⟨v9, k9⟩ := q.k 9 (by decide)
  have f9 := q.f 9
  clear g1a q
  have d := RB.seven HO1.out.o
  have d3 := d.2.2.2.1
  have d4 := d.2.2.2.2.1
  have q := HO1.out.m.mc
  obtain ⟨y9, e9⟩ := q.k 9 (by decide)
  have z9 := q.f 9
  rw [← HV.out] at d3 d4 e9 z9
  clear d q
  cases hmi : o.minus
  · rw [hmi] at d3
    have HE := Lib.hid (HE1.out hmi)
    clear HE1 HE2 hmi
    go_wp2
    exact ⟨rfl, _, results_none rfl _ _ _, rfl, by rw [HE.out, HV.out]; exact HO1.out.m, by rw [HV.out]; exact HKW.out⟩
  · rw [hmi] at d3
    have HE := Lib.hid (HE2.out hmi)
    clear HE1 HE2 hmi
    go_wp2
    exact ⟨rfl, _, results_none rfl _ _ _, rfl, by rw [HE.out, HV.out]; exact H2.out.m, by rw [HV.out]; exact HK2.out⟩
theorem number_any {w : World} {p : Nat} {m : Mk} (h : MS w p m) (hT : TL w p) (o : Po) (hv : u64ok o.v) :
    Calls Tryz.prog 42 #[.pointer (some ⟨p, 0, none⟩), .agg (poA o)] w (MkP p (numberM m o) w) := by
  by_cases hs : shapeI m.f.op = 3
  · exact number_mask h hT o hs
  · exact number_imm h hT o hv hs
end Go.Proofs.YthejefldnpeciaaGreatDoor
