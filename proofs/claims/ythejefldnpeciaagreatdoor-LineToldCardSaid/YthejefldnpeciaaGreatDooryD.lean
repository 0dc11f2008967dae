/- line: the maker's methods, on. -/
import Derived.Test.YthejefldnpeciaaGreatDooryB
import Derived.Test.YthejefldnpeciaaGreatDooryC
import Derived.Test.YthejefldnpeciaaGreatDoorWT
namespace Go.Proofs.YthejefldnpeciaaGreatDoor
set_option linter.unusedVariables false
set_option linter.unusedSimpArgs false
open Go.ChangeShapes Go.WideShapes Go.Deep Go.RowKit

set_option maxRecDepth 100000 in
set_option maxHeartbeats 3000000 in
theorem reg_13 {w : World} {p : Nat} {f : Fm} {i : In} {nd : Nd} {rg : Int} {wr gr : Bool} (h : MS w p ⟨f, i, nd, rg, wr, gr⟩) (hT : TL w p) (o : Po) (hs : shapeI f.op = 13) (hr : 0 ≤ rg ∧ rg ≤ 3) :
    Calls Tryz.prog 41 #[.pointer (some ⟨p, 0, none⟩), .agg (poA o)] w (MkP p (regM ⟨f, i, nd, rg, wr, gr⟩ o) w) := by
  have H0 := MO.mk0 h o
  have HK : KP p w (w.alloc (.cells (poA o) 38)) := KP.lies (KP.refl _ _) _
  have hTW : TL (w.alloc (.cells (poA o) 38)) p := hT.kept HK
  obtain ⟨W, hW⟩ : ∃ W, W = w.alloc (.cells (poA o) 38) := ⟨_, rfl⟩
  obtain ⟨X, hX⟩ : ∃ X, X = w.heap.size := ⟨_, rfl⟩
  rw [← hW, ← hX] at H0
  rw [← hW] at HK hTW
  have HW := Lib.hid hW.symm
  have HX := Lib.hid hX.symm
  have HTW := Lib.hid hTW
  have q := H0.m.mc
  have g1 : W.cell? ⟨p, 1, none⟩ = some (.int .i64 f.op) := q.c1
  have g18 : W.cell? ⟨p, 18, none⟩ = some (.int .i64 rg) := RB.cell H0.m
  have f18 : W.frozen? ⟨p, 18, none⟩ = false := q.f 18
  have g1a := g1
  have g18a := g18
  rw [hW] at g1a g18a
  have HG := Lib.hid (And.intro g1 (And.intro g18 f18))
  clear g1 g18 f18
  have HSh : Hid (Calls Tryz.prog 14 #[.int .i64 f.op] W (Ret (.int .i64 (shapeI f.op)) W)) := Lib.hid (Shape_any _ W HTW.out.tab.1)
  obtain ⟨W2, hW2⟩ : ∃ W2, W2 = W.setCell ⟨p, 18, none⟩ (.int .i64 (rg + 1)) := ⟨_, rfl⟩
  have H2 : MO W2 p X ⟨f, i, nd, rg + 1, wr, gr⟩ o := by rw [hW2]; exact H0.set 18 _ rfl
  have HK2 : Hid (KP p w W2) := Lib.hid (by rw [hW2]; exact KP.trans' HK (KP.step p _ _ _))
  have HT2 : Hid (TL W2 p) := Lib.hid (by rw [hW2]; exact HTW.out.kept (KP.step p _ _ _))
  have HW2 := Lib.hid hW2.symm
  obtain ⟨V0, hV0⟩ : ∃ V0, V0 = W2.drew := ⟨_, rfl⟩
  have HV0 : Hid (W2.drew = V0) := Lib.hid hV0.symm
  have hb0 : Below W2.heap.size W2 V0 := by rw [hV0]; exact (Below.refl _ _).drew
  have H3 := Lib.hid (H2.next hb0)
  have HK3 := Lib.hid (KP.trans' HK2.out (KP.of_below hb0))
  have HT3 := Lib.hid (HT2.out.next hb0)
  obtain ⟨m2, hm2⟩ : ∃ m2, checkM ⟨f, i, nd, rg + 1, wr, gr⟩ o (stackM f.op 1) = m2 := ⟨_, rfl⟩
  have HE : Hid (regM ⟨f, i, nd, rg, wr, gr⟩ o = { m2 with i := { m2.i with n := o.reg } }) := Lib.hid (by
    have e : placeM ⟨f, i, nd, rg, wr, gr⟩ = 1 := by unfold placeM; rw [if_pos hs]
    unfold regM
    rw [e, hm2]
    unfold putM
    simp)
  have HSt : Hid (∀ u, (∃ v, v = stackM f.op 1) → u.cell? ⟨p, 1, none⟩ = some (.int .i64 f.op) → Calls Tryz.prog 75 #[.pointer (some ⟨p, 0, none⟩), .int .i64 1] u (Ret (.bool (stackM f.op 1)) u)) := Lib.hid fun u _ hu => stack_any f.op 1 hu
  have HCh : Hid (∀ u, MS u p ⟨f, i, nd, rg + 1, wr, gr⟩ → Calls Tryz.prog 74 #[.pointer (some ⟨p, 0, none⟩), .agg (poA o), .bool (stackM f.op 1)] u (MkP p m2 u)) := Lib.hid fun u hu => by have := check_any hu o (stackM f.op 1); rwa [hm2] at this
  have HcX : Hid (∀ v, RB v X (poA o) 38 → v.cell? ⟨X, 0, none⟩ = some (.int .i64 o.kind) ∧ v.cell? ⟨X, 1, none⟩ = some (.int .i64 o.reg) ∧ v.cell? ⟨X, 2, none⟩ = some (.bool o.stack) ∧ v.cell? ⟨X, 3, none⟩ = some (.bool o.minus) ∧ v.cell? ⟨X, 4, none⟩ = some (.int .u64 o.v) ∧ v.cell? ⟨X, 5, none⟩ = some (.string ⟨o.sym.toArray⟩) ∧ v.cell? ⟨X, 6, none⟩ = some (.int .i64 o.add)) := Lib.hid fun v hv => ⟨RB.cell hv, RB.cell hv, RB.cell hv, RB.cell hv, RB.cell hv, RB.cell hv, RB.cell hv⟩
  have t13 : (shapeI f.op == 13) = true := by simpa using hs
  skip
  clear H0 HK h q hW hX hTW hT H2 hW2 hV0 hb0 hm2 hs
  go_enter Tryz.func41, Tryz.ntmps41
  go_wp2_with fail
  rw [HW.out, HX.out]
  refine HSh.out.mono ?_
  rintro e w' ⟨rfl, rfl⟩
  obtain ⟨g1, g18, f18⟩ := HG.out
  clear g1a g18a
  go_wp2_with fail
  rw [HW2.out]
  refine wp_region_held_drew (S := fun v => v.cell? ⟨X, 0, none⟩ = some (.int .i64 o.kind) ∧ v.cell? ⟨X, 1, none⟩ = some (.int .i64 o.reg) ∧ v.cell? ⟨X, 2, none⟩ = some (.bool o.stack) ∧ v.cell? ⟨X, 3, none⟩ = some (.bool o.minus) ∧ v.cell? ⟨X, 4, none⟩ = some (.int .u64 o.v) ∧ v.cell? ⟨X, 5, none⟩ = some (.string ⟨o.sym.toArray⟩) ∧ v.cell? ⟨X, 6, none⟩ = some (.int .i64 o.add)) (by kernel_rfl) (by rw [HV0.out]; exact HcX.out _ H3.out.o) (fun hHeld => ?_)
  rw [HV0.out]
  have hHeld0 := HcX.out _ H3.out.o
  clear hHeld
  refine tk 0 ?_ rfl hHeld0 ?_ ?_
  rotate_left 1
  · intro w hS; obtain ⟨_, _, _, _, _, _, _⟩ := hS; go_simp; (try with_reducible rfl)
  (try simp only [Act.put, List.setIfInBounds_toArray, List.set_cons_zero, List.set_cons_succ])
  refine tk 1 ?_ rfl hHeld0 ?_ ?_
  rotate_left 1
  · intro w hS; obtain ⟨_, _, _, _, _, _, _⟩ := hS; go_simp; (try with_reducible rfl)
  (try simp only [Act.put, List.setIfInBounds_toArray, List.set_cons_zero, List.set_cons_succ])
  refine tk 2 ?_ rfl hHeld0 ?_ ?_
  rotate_left 1
  · intro w hS; obtain ⟨_, _, _, _, _, _, _⟩ := hS; go_simp; (try with_reducible rfl)
  (try simp only [Act.put, List.setIfInBounds_toArray, List.set_cons_zero, List.set_cons_succ])
  refine tk 3 ?_ rfl hHeld0 ?_ ?_
  rotate_left 1
  · intro w hS; obtain ⟨_, _, _, _, _, _, _⟩ := hS; go_simp; (try with_reducible rfl)
  (try simp only [Act.put, List.setIfInBounds_toArray, List.set_cons_zero, List.set_cons_succ])
  refine rd 4 rfl (fun K hK => ?_)
  go_simp
  go_wp2_with (go_at_call 75; refine (HSt.out _ ⟨_, rfl⟩ H3.out.m.mc.c1).mono ?_; rintro e w' ⟨rfl, rfl⟩)
  refine hK.out _ _ (HcX.out _ H3.out.o) (fun hHeld1 => ?_)
  clear hK K
  refine rd 5 rfl (fun K hK => ?_)
  go_simp
  go_wp2_with (go_at_call 74; refine (HCh.out _ H3.out.m).mono ?_; rintro e v1 ⟨rfl, hm, hk⟩)
  have H4 := Lib.hid (H3.out.kept hk hm)
  have HK4 := Lib.hid (KP.trans' HK3.out hk)
  clear hm hk
  refine hK.out _ _ (HcX.out _ H4.out.o) (fun hHeld2 => ?_)
  clear hK K
  refine wpAnyH_done (by kernel_rfl) ?_ _
  have x1 : v1.cell? ⟨X, 1, none⟩ = some (.int .i64 o.reg) := H4.out.o.cell
  have g4 := H4.out.m.mc
  obtain ⟨v4, k4⟩ := g4.k 5 (by decide)
  have f4 := g4.f 5
  have HN := Lib.hid (H4.out.set (m' := { m2 with i := { m2.i with n := o.reg } }) 5 (.int .i64 o.reg) rfl)
  have HKN := Lib.hid (KP.trans' HK4.out (KP.step p v1 5 (.int .i64 o.reg)))
  clear g4 H3 HK3 hHeld0 hHeld1 hHeld2
  go_wp2
  exact ⟨rfl, _, results_none rfl _ _ _, rfl, by rw [HE.out]; exact HN.out.m, HKN.out⟩
set_option maxRecDepth 100000 in
set_option maxHeartbeats 3000000 in
theorem reg_0 {w : World} {p : Nat} {f : Fm} {i : In} {nd : Nd} {rg : Int} {wr gr : Bool} (h : MS w p ⟨f, i, nd, rg, wr, gr⟩) (hT : TL w p) (o : Po) (hs : ¬ shapeI f.op = 13) (hr : rg = 0) :
    Calls Tryz.prog 41 #[.pointer (some ⟨p, 0, none⟩), .agg (poA o)] w (MkP p (regM ⟨f, i, nd, rg, wr, gr⟩ o) w) := by
  have H0 := MO.mk0 h o
  have HK : KP p w (w.alloc (.cells (poA o) 38)) := KP.lies (KP.refl _ _) _
  have hTW : TL (w.alloc (.cells (poA o) 38)) p := hT.kept HK
  obtain ⟨W, hW⟩ : ∃ W, W = w.alloc (.cells (poA o) 38) := ⟨_, rfl⟩
  obtain ⟨X, hX⟩ : ∃ X, X = w.heap.size := ⟨_, rfl⟩
  rw [← hW, ← hX] at H0
  rw [← hW] at HK hTW
  have HW := Lib.hid hW.symm
  have HX := Lib.hid hX.symm
  have HTW := Lib.hid hTW
  have q := H0.m.mc
  have g1 : W.cell? ⟨p, 1, none⟩ = some (.int .i64 f.op) := q.c1
  have g18 : W.cell? ⟨p, 18, none⟩ = some (.int .i64 rg) := RB.cell H0.m
  have f18 : W.frozen? ⟨p, 18, none⟩ = false := q.f 18
  have g1a := g1
  have g18a := g18
  rw [hW] at g1a g18a
  have HG := Lib.hid (And.intro g1 (And.intro g18 f18))
  clear g1 g18 f18
  have HSh : Hid (Calls Tryz.prog 14 #[.int .i64 f.op] W (Ret (.int .i64 (shapeI f.op)) W)) := Lib.hid (Shape_any _ W HTW.out.tab.1)
  obtain ⟨W2, hW2⟩ : ∃ W2, W2 = W.setCell ⟨p, 18, none⟩ (.int .i64 (1)) := ⟨_, rfl⟩
  have H2 : MO W2 p X ⟨f, i, nd, rg + 1, wr, gr⟩ o := by rw [hW2]; exact H0.set 18 _ (by subst hr; rfl)
  have HK2 : Hid (KP p w W2) := Lib.hid (by rw [hW2]; exact KP.trans' HK (KP.step p _ _ _))
  have HT2 : Hid (TL W2 p) := Lib.hid (by rw [hW2]; exact HTW.out.kept (KP.step p _ _ _))
  have HW2 := Lib.hid hW2.symm
  obtain ⟨V0, hV0⟩ : ∃ V0, V0 = W2.drew := ⟨_, rfl⟩
  have HV0 : Hid (W2.drew = V0) := Lib.hid hV0.symm
  have hb0 : Below W2.heap.size W2 V0 := by rw [hV0]; exact (Below.refl _ _).drew
  have H3 := Lib.hid (H2.next hb0)
  have HK3 := Lib.hid (KP.trans' HK2.out (KP.of_below hb0))
  have HT3 := Lib.hid (HT2.out.next hb0)
  obtain ⟨m2, hm2⟩ : ∃ m2, checkM ⟨f, i, nd, rg + 1, wr, gr⟩ o (stackM f.op 0) = m2 := ⟨_, rfl⟩
  have HE : Hid (regM ⟨f, i, nd, rg, wr, gr⟩ o = { m2 with i := { m2.i with d := o.reg } }) := Lib.hid (by
    have e : placeM ⟨f, i, nd, rg, wr, gr⟩ = 0 := by unfold placeM; rw [if_neg hs]; exact hr
    unfold regM
    rw [e, hm2]
    unfold putM
    simp)
  have HSt : Hid (∀ u, (∃ v, v = stackM f.op 0) → u.cell? ⟨p, 1, none⟩ = some (.int .i64 f.op) → Calls Tryz.prog 75 #[.pointer (some ⟨p, 0, none⟩), .int .i64 0] u (Ret (.bool (stackM f.op 0)) u)) := Lib.hid fun u _ hu => stack_any f.op 0 hu
  have HCh : Hid (∀ u, MS u p ⟨f, i, nd, rg + 1, wr, gr⟩ → Calls Tryz.prog 74 #[.pointer (some ⟨p, 0, none⟩), .agg (poA o), .bool (stackM f.op 0)] u (MkP p m2 u)) := Lib.hid fun u hu => by have := check_any hu o (stackM f.op 0); rwa [hm2] at this
  have HcX : Hid (∀ v, RB v X (poA o) 38 → v.cell? ⟨X, 0, none⟩ = some (.int .i64 o.kind) ∧ v.cell? ⟨X, 1, none⟩ = some (.int .i64 o.reg) ∧ v.cell? ⟨X, 2, none⟩ = some (.bool o.stack) ∧ v.cell? ⟨X, 3, none⟩ = some (.bool o.minus) ∧ v.cell? ⟨X, 4, none⟩ = some (.int .u64 o.v) ∧ v.cell? ⟨X, 5, none⟩ = some (.string ⟨o.sym.toArray⟩) ∧ v.cell? ⟨X, 6, none⟩ = some (.int .i64 o.add)) := Lib.hid fun v hv => ⟨RB.cell hv, RB.cell hv, RB.cell hv, RB.cell hv, RB.cell hv, RB.cell hv, RB.cell hv⟩
  have t13 : (shapeI f.op == 13) = false := by simpa using hs
  subst hr
  clear H0 HK h q hW hX hTW hT H2 hW2 hV0 hb0 hm2 hs
  go_enter Tryz.func41, Tryz.ntmps41
  go_wp2_with fail
  rw [HW.out, HX.out]
  refine HSh.out.mono ?_
  rintro e w' ⟨rfl, rfl⟩
  obtain ⟨g1, g18, f18⟩ := HG.out
  clear g1a g18a
  go_wp2_with fail
  rw [HW2.out]
  refine wp_region_held_drew (S := fun v => v.cell? ⟨X, 0, none⟩ = some (.int .i64 o.kind) ∧ v.cell? ⟨X, 1, none⟩ = some (.int .i64 o.reg) ∧ v.cell? ⟨X, 2, none⟩ = some (.bool o.stack) ∧ v.cell? ⟨X, 3, none⟩ = some (.bool o.minus) ∧ v.cell? ⟨X, 4, none⟩ = some (.int .u64 o.v) ∧ v.cell? ⟨X, 5, none⟩ = some (.string ⟨o.sym.toArray⟩) ∧ v.cell? ⟨X, 6, none⟩ = some (.int .i64 o.add)) (by kernel_rfl) (by rw [HV0.out]; exact HcX.out _ H3.out.o) (fun hHeld => ?_)
  rw [HV0.out]
  have hHeld0 := HcX.out _ H3.out.o
  clear hHeld
  refine tk 0 ?_ rfl hHeld0 ?_ ?_
  rotate_left 1
  · intro w hS; obtain ⟨_, _, _, _, _, _, _⟩ := hS; go_simp; (try with_reducible rfl)
  (try simp only [Act.put, List.setIfInBounds_toArray, List.set_cons_zero, List.set_cons_succ])
  refine tk 1 ?_ rfl hHeld0 ?_ ?_
  rotate_left 1
  · intro w hS; obtain ⟨_, _, _, _, _, _, _⟩ := hS; go_simp; (try with_reducible rfl)
  (try simp only [Act.put, List.setIfInBounds_toArray, List.set_cons_zero, List.set_cons_succ])
  refine tk 2 ?_ rfl hHeld0 ?_ ?_
  rotate_left 1
  · intro w hS; obtain ⟨_, _, _, _, _, _, _⟩ := hS; go_simp; (try with_reducible rfl)
  (try simp only [Act.put, List.setIfInBounds_toArray, List.set_cons_zero, List.set_cons_succ])
  refine tk 3 ?_ rfl hHeld0 ?_ ?_
  rotate_left 1
  · intro w hS; obtain ⟨_, _, _, _, _, _, _⟩ := hS; go_simp; (try with_reducible rfl)
  (try simp only [Act.put, List.setIfInBounds_toArray, List.set_cons_zero, List.set_cons_succ])
  refine rd 4 rfl (fun K hK => ?_)
  go_simp
  go_wp2_with (go_at_call 75; refine (HSt.out _ ⟨_, rfl⟩ H3.out.m.mc.c1).mono ?_; rintro e w' ⟨rfl, rfl⟩)
  refine hK.out _ _ (HcX.out _ H3.out.o) (fun hHeld1 => ?_)
  clear hK K
  refine rd 5 rfl (fun K hK => ?_)
  go_simp
  go_wp2_with (go_at_call 74; refine (HCh.out _ H3.out.m).mono ?_; rintro e v1 ⟨rfl, hm, hk⟩)
  have H4 := Lib.hid (H3.out.kept hk hm)
  have HK4 := Lib.hid (KP.trans' HK3.out hk)
  clear hm hk
  refine hK.out _ _ (HcX.out _ H4.out.o) (fun hHeld2 => ?_)
  clear hK K
  refine wpAnyH_done (by kernel_rfl) ?_ _
  have x1 : v1.cell? ⟨X, 1, none⟩ = some (.int .i64 o.reg) := H4.out.o.cell
  have g4 := H4.out.m.mc
  obtain ⟨v4, k4⟩ := g4.k 4 (by decide)
  have f4 := g4.f 4
  have HN := Lib.hid (H4.out.set (m' := { m2 with i := { m2.i with d := o.reg } }) 4 (.int .i64 o.reg) rfl)
  have HKN := Lib.hid (KP.trans' HK4.out (KP.step p v1 4 (.int .i64 o.reg)))
  clear g4 H3 HK3 hHeld0 hHeld1 hHeld2
  go_wp2
  exact ⟨rfl, _, results_none rfl _ _ _, rfl, by rw [HE.out]; exact HN.out.m, HKN.out⟩
set_option maxRecDepth 100000 in
set_option maxHeartbeats 3000000 in
theorem reg_1 {w : World} {p : Nat} {f : Fm} {i : In} {nd : Nd} {rg : Int} {wr gr : Bool} (h : MS w p ⟨f, i, nd, rg, wr, gr⟩) (hT : TL w p) (o : Po) (hs : ¬ shapeI f.op = 13) (hr : rg = 1) :
    Calls Tryz.prog 41 #[.pointer (some ⟨p, 0, none⟩), .agg (poA o)] w (MkP p (regM ⟨f, i, nd, rg, wr, gr⟩ o) w) := by
  have H0 := MO.mk0 h o
  have HK : KP p w (w.alloc (.cells (poA o) 38)) := KP.lies (KP.refl _ _) _
  have hTW : TL (w.alloc (.cells (poA o) 38)) p := hT.kept HK
  obtain ⟨W, hW⟩ : ∃ W, W = w.alloc (.cells (poA o) 38) := ⟨_, rfl⟩
  obtain ⟨X, hX⟩ : ∃ X, X = w.heap.size := ⟨_, rfl⟩
  rw [← hW, ← hX] at H0
  rw [← hW] at HK hTW
  have HW := Lib.hid hW.symm
  have HX := Lib.hid hX.symm
  have HTW := Lib.hid hTW
  have q := H0.m.mc
  have g1 : W.cell? ⟨p, 1, none⟩ = some (.int .i64 f.op) := q.c1
  have g18 : W.cell? ⟨p, 18, none⟩ = some (.int .i64 rg) := RB.cell H0.m
  have f18 : W.frozen? ⟨p, 18, none⟩ = false := q.f 18
  have g1a := g1
  have g18a := g18
  rw [hW] at g1a g18a
  have HG := Lib.hid (And.intro g1 (And.intro g18 f18))
  clear g1 g18 f18
  have HSh : Hid (Calls Tryz.prog 14 #[.int .i64 f.op] W (Ret (.int .i64 (shapeI f.op)) W)) := Lib.hid (Shape_any _ W HTW.out.tab.1)
  obtain ⟨W2, hW2⟩ : ∃ W2, W2 = W.setCell ⟨p, 18, none⟩ (.int .i64 (2)) := ⟨_, rfl⟩
  have H2 : MO W2 p X ⟨f, i, nd, rg + 1, wr, gr⟩ o := by rw [hW2]; exact H0.set 18 _ (by subst hr; rfl)
  have HK2 : Hid (KP p w W2) := Lib.hid (by rw [hW2]; exact KP.trans' HK (KP.step p _ _ _))
  have HT2 : Hid (TL W2 p) := Lib.hid (by rw [hW2]; exact HTW.out.kept (KP.step p _ _ _))
  have HW2 := Lib.hid hW2.symm
  obtain ⟨V0, hV0⟩ : ∃ V0, V0 = W2.drew := ⟨_, rfl⟩
  have HV0 : Hid (W2.drew = V0) := Lib.hid hV0.symm
  have hb0 : Below W2.heap.size W2 V0 := by rw [hV0]; exact (Below.refl _ _).drew
  have H3 := Lib.hid (H2.next hb0)
  have HK3 := Lib.hid (KP.trans' HK2.out (KP.of_below hb0))
  have HT3 := Lib.hid (HT2.out.next hb0)
  obtain ⟨m2, hm2⟩ : ∃ m2, checkM ⟨f, i, nd, rg + 1, wr, gr⟩ o (stackM f.op 1) = m2 := ⟨_, rfl⟩
  have HE : Hid (regM ⟨f, i, nd, rg, wr, gr⟩ o = { m2 with i := { m2.i with n := o.reg } }) := Lib.hid (by
    have e : placeM ⟨f, i, nd, rg, wr, gr⟩ = 1 := by unfold placeM; rw [if_neg hs]; exact hr
    unfold regM
    rw [e, hm2]
    unfold putM
    simp)
  have HSt : Hid (∀ u, (∃ v, v = stackM f.op 1) → u.cell? ⟨p, 1, none⟩ = some (.int .i64 f.op) → Calls Tryz.prog 75 #[.pointer (some ⟨p, 0, none⟩), .int .i64 1] u (Ret (.bool (stackM f.op 1)) u)) := Lib.hid fun u _ hu => stack_any f.op 1 hu
  have HCh : Hid (∀ u, MS u p ⟨f, i, nd, rg + 1, wr, gr⟩ → Calls Tryz.prog 74 #[.pointer (some ⟨p, 0, none⟩), .agg (poA o), .bool (stackM f.op 1)] u (MkP p m2 u)) := Lib.hid fun u hu => by have := check_any hu o (stackM f.op 1); rwa [hm2] at this
  have HcX : Hid (∀ v, RB v X (poA o) 38 → v.cell? ⟨X, 0, none⟩ = some (.int .i64 o.kind) ∧ v.cell? ⟨X, 1, none⟩ = some (.int .i64 o.reg) ∧ v.cell? ⟨X, 2, none⟩ = some (.bool o.stack) ∧ v.cell? ⟨X, 3, none⟩ = some (.bool o.minus) ∧ v.cell? ⟨X, 4, none⟩ = some (.int .u64 o.v) ∧ v.cell? ⟨X, 5, none⟩ = some (.string ⟨o.sym.toArray⟩) ∧ v.cell? ⟨X, 6, none⟩ = some (.int .i64 o.add)) := Lib.hid fun v hv => ⟨RB.cell hv, RB.cell hv, RB.cell hv, RB.cell hv, RB.cell hv, RB.cell hv, RB.cell hv⟩
  have t13 : (shapeI f.op == 13) = false := by simpa using hs
  subst hr
  clear H0 HK h q hW hX hTW hT H2 hW2 hV0 hb0 hm2 hs
  go_enter Tryz.func41, Tryz.ntmps41
  go_wp2_with fail
  rw [HW.out, HX.out]
  refine HSh.out.mono ?_
  rintro e w' ⟨rfl, rfl⟩
  obtain ⟨g1, g18, f18⟩ := HG.out
  clear g1a g18a
  go_wp2_with fail
  rw [HW2.out]
  refine wp_region_held_drew (S := fun v => v.cell? ⟨X, 0, none⟩ = some (.int .i64 o.kind) ∧ v.cell? ⟨X, 1, none⟩ = some (.int .i64 o.reg) ∧ v.cell? ⟨X, 2, none⟩ = some (.bool o.stack) ∧ v.cell? ⟨X, 3, none⟩ = some (.bool o.minus) ∧ v.cell? ⟨X, 4, none⟩ = some (.int .u64 o.v) ∧ v.cell? ⟨X, 5, none⟩ = some (.string ⟨o.sym.toArray⟩) ∧ v.cell? ⟨X, 6, none⟩ = some (.int .i64 o.add)) (by kernel_rfl) (by rw [HV0.out]; exact HcX.out _ H3.out.o) (fun hHeld => ?_)
  rw [HV0.out]
  have hHeld0 := HcX.out _ H3.out.o
  clear hHeld
  refine tk 0 ?_ rfl hHeld0 ?_ ?_
  rotate_left 1
  · intro w hS; obtain ⟨_, _, _, _, _, _, _⟩ := hS; go_simp; (try with_reducible rfl)
  (try simp only [Act.put, List.setIfInBounds_toArray, List.set_cons_zero, List.set_cons_succ])
  refine tk 1 ?_ rfl hHeld0 ?_ ?_
  rotate_left 1
  · intro w hS; obtain ⟨_, _, _, _, _, _, _⟩ := hS; go_simp; (try with_reducible rfl)
  (try simp only [Act.put, List.setIfInBounds_toArray, List.set_cons_zero, List.set_cons_succ])
  refine tk 2 ?_ rfl hHeld0 ?_ ?_
  rotate_left 1
  · intro w hS; obtain ⟨_, _, _, _, _, _, _⟩ := hS; go_simp; (try with_reducible rfl)
  (try simp only [Act.put, List.setIfInBounds_toArray, List.set_cons_zero, List.set_cons_succ])
  refine tk 3 ?_ rfl hHeld0 ?_ ?_
  rotate_left 1
  · intro w hS; obtain ⟨_, _, _, _, _, _, _⟩ := hS; go_simp; (try with_reducible rfl)
  (try simp only [Act.put, List.setIfInBounds_toArray, List.set_cons_zero, List.set_cons_succ])
  refine rd 4 rfl (fun K hK => ?_)
  go_simp
  go_wp2_with (go_at_call 75; refine (HSt.out _ ⟨_, rfl⟩ H3.out.m.mc.c1).mono ?_; rintro e w' ⟨rfl, rfl⟩)
  refine hK.out _ _ (HcX.out _ H3.out.o) (fun hHeld1 => ?_)
  clear hK K
  refine rd 5 rfl (fun K hK => ?_)
  go_simp
  go_wp2_with (go_at_call 74; refine (HCh.out _ H3.out.m).mono ?_; rintro e v1 ⟨rfl, hm, hk⟩)
  have H4 := Lib.hid (H3.out.kept hk hm)
  have HK4 := Lib.hid (KP.trans' HK3.out hk)
  clear hm hk
  refine hK.out _ _ (HcX.out _ H4.out.o) (fun hHeld2 => ?_)
  clear hK K
  refine wpAnyH_done (by kernel_rfl) ?_ _
  have x1 : v1.cell? ⟨X, 1, none⟩ = some (.int .i64 o.reg) := H4.out.o.cell
  have g4 := H4.out.m.mc
  obtain ⟨v4, k4⟩ := g4.k 5 (by decide)
  have f4 := g4.f 5
  have HN := Lib.hid (H4.out.set (m' := { m2 with i := { m2.i with n := o.reg } }) 5 (.int .i64 o.reg) rfl)
  have HKN := Lib.hid (KP.trans' HK4.out (KP.step p v1 5 (.int .i64 o.reg)))
  clear g4 H3 HK3 hHeld0 hHeld1 hHeld2
  go_wp2
  exact ⟨rfl, _, results_none rfl _ _ _, rfl, by rw [HE.out]; exact HN.out.m, HKN.out⟩
set_option maxRecDepth 100000 in
set_option maxHeartbeats 3000000 in
theorem reg_2 {w : World} {p : Nat} {f : Fm} {i : In} {nd : Nd} {rg : Int} {wr gr : Bool} (h : MS w p ⟨f, i, nd, rg, wr, gr⟩) (hT : TL w p) (o : Po) (hs : ¬ shapeI f.op = 13) (hr : rg = 2) :
    Calls Tryz.prog 41 #[.pointer (some ⟨p, 0, none⟩), .agg (poA o)] w (MkP p (regM ⟨f, i, nd, rg, wr, gr⟩ o) w) := by
  have H0 := MO.mk0 h o
  have HK : KP p w (w.alloc (.cells (poA o) 38)) := KP.lies (KP.refl _ _) _
  have hTW : TL (w.alloc (.cells (poA o) 38)) p := hT.kept HK
  obtain ⟨W, hW⟩ : ∃ W, W = w.alloc (.cells (poA o) 38) := ⟨_, rfl⟩
  obtain ⟨X, hX⟩ : ∃ X, X = w.heap.size := ⟨_, rfl⟩
  rw [← hW, ← hX] at H0
  rw [← hW] at HK hTW
  have HW := Lib.hid hW.symm
  have HX := Lib.hid hX.symm
  have HTW := Lib.hid hTW
  have q := H0.m.mc
  have g1 : W.cell? ⟨p, 1, none⟩ = some (.int .i64 f.op) := q.c1
  have g18 : W.cell? ⟨p, 18, none⟩ = some (.int .i64 rg) := RB.cell H0.m
  have f18 : W.frozen? ⟨p, 18, none⟩ = false := q.f 18
  have g1a := g1
  have g18a := g18
  rw [hW] at g1a g18a
  have HG := Lib.hid (And.intro g1 (And.intro g18 f18))
  clear g1 g18 f18
  have HSh : Hid (Calls Tryz.prog 14 #[.int .i64 f.op] W (Ret (.int .i64 (shapeI f.op)) W)) := Lib.hid (Shape_any _ W HTW.out.tab.1)
  obtain ⟨W2, hW2⟩ : ∃ W2, W2 = W.setCell ⟨p, 18, none⟩ (.int .i64 (3)) := ⟨_, rfl⟩
  have H2 : MO W2 p X ⟨f, i, nd, rg + 1, wr, gr⟩ o := by rw [hW2]; exact H0.set 18 _ (by subst hr; rfl)
  have HK2 : Hid (KP p w W2) := Lib.hid (by rw [hW2]; exact KP.trans' HK (KP.step p _ _ _))
  have HT2 : Hid (TL W2 p) := Lib.hid (by rw [hW2]; exact HTW.out.kept (KP.step p _ _ _))
  have HW2 := Lib.hid hW2.symm
  obtain ⟨V0, hV0⟩ : ∃ V0, V0 = W2.drew := ⟨_, rfl⟩
  have HV0 : Hid (W2.drew = V0) := Lib.hid hV0.symm
  have hb0 : Below W2.heap.size W2 V0 := by rw [hV0]; exact (Below.refl _ _).drew
  have H3 := Lib.hid (H2.next hb0)
  have HK3 := Lib.hid (KP.trans' HK2.out (KP.of_below hb0))
  have HT3 := Lib.hid (HT2.out.next hb0)
  obtain ⟨m2, hm2⟩ : ∃ m2, checkM ⟨f, i, nd, rg + 1, wr, gr⟩ o (stackM f.op 2) = m2 := ⟨_, rfl⟩
  have HE : Hid (regM ⟨f, i, nd, rg, wr, gr⟩ o = { m2 with i := { m2.i with m := o.reg } }) := Lib.hid (by
    have e : placeM ⟨f, i, nd, rg, wr, gr⟩ = 2 := by unfold placeM; rw [if_neg hs]; exact hr
    unfold regM
    rw [e, hm2]
    unfold putM
    simp)
  have HSt : Hid (∀ u, (∃ v, v = stackM f.op 2) → u.cell? ⟨p, 1, none⟩ = some (.int .i64 f.op) → Calls Tryz.prog 75 #[.pointer (some ⟨p, 0, none⟩), .int .i64 2] u (Ret (.bool (stackM f.op 2)) u)) := Lib.hid fun u _ hu => stack_any f.op 2 hu
  have HCh : Hid (∀ u, MS u p ⟨f, i, nd, rg + 1, wr, gr⟩ → Calls Tryz.prog 74 #[.pointer (some ⟨p, 0, none⟩), .agg (poA o), .bool (stackM f.op 2)] u (MkP p m2 u)) := Lib.hid fun u hu => by have := check_any hu o (stackM f.op 2); rwa [hm2] at this
  have HcX : Hid (∀ v, RB v X (poA o) 38 → v.cell? ⟨X, 0, none⟩ = some (.int .i64 o.kind) ∧ v.cell? ⟨X, 1, none⟩ = some (.int .i64 o.reg) ∧ v.cell? ⟨X, 2, none⟩ = some (.bool o.stack) ∧ v.cell? ⟨X, 3, none⟩ = some (.bool o.minus) ∧ v.cell? ⟨X, 4, none⟩ = some (.int .u64 o.v) ∧ v.cell? ⟨X, 5, none⟩ = some (.string ⟨o.sym.toArray⟩) ∧ v.cell? ⟨X, 6, none⟩ = some (.int .i64 o.add)) := Lib.hid fun v hv => ⟨RB.cell hv, RB.cell hv, RB.cell hv, RB.cell hv, RB.cell hv, RB.cell hv, RB.cell hv⟩
  have t13 : (shapeI f.op == 13) = false := by simpa using hs
  subst hr
  clear H0 HK h q hW hX hTW hT H2 hW2 hV0 hb0 hm2 hs
  go_enter Tryz.func41, Tryz.ntmps41
  go_wp2_with fail
  rw [HW.out, HX.out]
  refine HSh.out.mono ?_
  rintro e w' ⟨rfl, rfl⟩
  obtain ⟨g1, g18, f18⟩ := HG.out
  clear g1a g18a
  go_wp2_with fail
  rw [HW2.out]
  refine wp_region_held_drew (S := fun v => v.cell? ⟨X, 0, none⟩ = some (.int .i64 o.kind) ∧ v.cell? ⟨X, 1, none⟩ = some (.int .i64 o.reg) ∧ v.cell? ⟨X, 2, none⟩ = some (.bool o.stack) ∧ v.cell? ⟨X, 3, none⟩ = some (.bool o.minus) ∧ v.cell? ⟨X, 4, none⟩ = some (.int .u64 o.v) ∧ v.cell? ⟨X, 5, none⟩ = some (.string ⟨o.sym.toArray⟩) ∧ v.cell? ⟨X, 6, none⟩ = some (.int .i64 o.add)) (by kernel_rfl) (by rw [HV0.out]; exact HcX.out _ H3.out.o) (fun hHeld => ?_)
  rw [HV0.out]
  have hHeld0 := HcX.out _ H3.out.o
  clear hHeld
  refine tk 0 ?_ rfl hHeld0 ?_ ?_
  rotate_left 1
  · intro w hS; obtain ⟨_, _, _, _, _, _, _⟩ := hS; go_simp; (try with_reducible rfl)
  (try simp only [Act.put, List.setIfInBounds_toArray, List.set_cons_zero, List.set_cons_succ])
  refine tk 1 ?_ rfl hHeld0 ?_ ?_
  rotate_left 1
  · intro w hS; obtain ⟨_, _, _, _, _, _, _⟩ := hS; go_simp; (try with_reducible rfl)
  (try simp only [Act.put, List.setIfInBounds_toArray, List.set_cons_zero, List.set_cons_succ])
  refine tk 2 ?_ rfl hHeld0 ?_ ?_
  rotate_left 1
  · intro w hS; obtain ⟨_, _, _, _, _, _, _⟩ := hS; go_simp; (try with_reducible rfl)
  (try simp only [Act.put, List.setIfInBounds_toArray, List.set_cons_zero, List.set_cons_succ])
  refine tk 3 ?_ rfl hHeld0 ?_ ?_
  rotate_left 1
  · intro w hS; obtain ⟨_, _, _, _, _, _, _⟩ := hS; go_simp; (try with_reducible rfl)
  (try simp only [Act.put, List.setIfInBounds_toArray, List.set_cons_zero, List.set_cons_succ])
  refine rd 4 rfl (fun K hK => ?_)
  go_simp
  go_wp2_with (go_at_call 75; refine (HSt.out _ ⟨_, rfl⟩ H3.out.m.mc.c1).mono ?_; rintro e w' ⟨rfl, rfl⟩)
  refine hK.out _ _ (HcX.out _ H3.out.o) (fun hHeld1 => ?_)
  clear hK K
  refine rd 5 rfl (fun K hK => ?_)
  go_simp
  go_wp2_with (go_at_call 74; refine (HCh.out _ H3.out.m).mono ?_; rintro e v1 ⟨rfl, hm, hk⟩)
  have H4 := Lib.hid (H3.out.kept hk hm)
  have HK4 := Lib.hid (KP.trans' HK3.out hk)
  clear hm hk
  refine hK.out _ _ (HcX.out _ H4.out.o) (fun hHeld2 => ?_)
  clear hK K
  refine wpAnyH_done (by kernel_rfl) ?_ _
  have x1 : v1.cell? ⟨X, 1, none⟩ = some (.int .i64 o.reg) := H4.out.o.cell
  have g4 := H4.out.m.mc
  obtain ⟨v4, k4⟩ := g4.k 6 (by decide)
  have f4 := g4.f 6
  have HN := Lib.hid (H4.out.set (m' := { m2 with i := { m2.i with m := o.reg } }) 6 (.int .i64 o.reg) rfl)
  have HKN := Lib.hid (KP.trans' HK4.out (KP.step p v1 6 (.int .i64 o.reg)))
  clear g4 H3 HK3 hHeld0 hHeld1 hHeld2
  go_wp2
  exact ⟨rfl, _, results_none rfl _ _ _, rfl, by rw [HE.out]; exact HN.out.m, HKN.out⟩
set_option maxRecDepth 100000 in
set_option maxHeartbeats 3000000 in
theorem reg_3 {w : World} {p : Nat} {f : Fm} {i : In} {nd : Nd} {rg : Int} {wr gr : Bool} (h : MS w p ⟨f, i, nd, rg, wr, gr⟩) (hT : TL w p) (o : Po) (hs : ¬ shapeI f.op = 13) (hr : rg = 3) :
    Calls Tryz.prog 41 #[.pointer (some ⟨p, 0, none⟩), .agg (poA o)] w (MkP p (regM ⟨f, i, nd, rg, wr, gr⟩ o) w) := by
  have H0 := MO.mk0 h o
  have HK : KP p w (w.alloc (.cells (poA o) 38)) := KP.lies (KP.refl _ _) _
  have hTW : TL (w.alloc (.cells (poA o) 38)) p := hT.kept HK
  obtain ⟨W, hW⟩ : ∃ W, W = w.alloc (.cells (poA o) 38) := ⟨_, rfl⟩
  obtain ⟨X, hX⟩ : ∃ X, X = w.heap.size := ⟨_, rfl⟩
  rw [← hW, ← hX] at H0
  rw [← hW] at HK hTW
  have HW := Lib.hid hW.symm
  have HX := Lib.hid hX.symm
  have HTW := Lib.hid hTW
  have q := H0.m.mc
  have g1 : W.cell? ⟨p, 1, none⟩ = some (.int .i64 f.op) := q.c1
  have g18 : W.cell? ⟨p, 18, none⟩ = some (.int .i64 rg) := RB.cell H0.m
  have f18 : W.frozen? ⟨p, 18, none⟩ = false := q.f 18
  have g1a := g1
  have g18a := g18
  rw [hW] at g1a g18a
  have HG := Lib.hid (And.intro g1 (And.intro g18 f18))
  clear g1 g18 f18
  have HSh : Hid (Calls Tryz.prog 14 #[.int .i64 f.op] W (Ret (.int .i64 (shapeI f.op)) W)) := Lib.hid (Shape_any _ W HTW.out.tab.1)
  obtain ⟨W2, hW2⟩ : ∃ W2, W2 = W.setCell ⟨p, 18, none⟩ (.int .i64 (4)) := ⟨_, rfl⟩
  have H2 : MO W2 p X ⟨f, i, nd, rg + 1, wr, gr⟩ o := by rw [hW2]; exact H0.set 18 _ (by subst hr; rfl)
  have HK2 : Hid (KP p w W2) := Lib.hid (by rw [hW2]; exact KP.trans' HK (KP.step p _ _ _))
  have HT2 : Hid (TL W2 p) := Lib.hid (by rw [hW2]; exact HTW.out.kept (KP.step p _ _ _))
  have HW2 := Lib.hid hW2.symm
  obtain ⟨V0, hV0⟩ : ∃ V0, V0 = W2.drew := ⟨_, rfl⟩
  have HV0 : Hid (W2.drew = V0) := Lib.hid hV0.symm
  have hb0 : Below W2.heap.size W2 V0 := by rw [hV0]; exact (Below.refl _ _).drew
  have H3 := Lib.hid (H2.next hb0)
  have HK3 := Lib.hid (KP.trans' HK2.out (KP.of_below hb0))
  have HT3 := Lib.hid (HT2.out.next hb0)
  obtain ⟨m2, hm2⟩ : ∃ m2, checkM ⟨f, i, nd, rg + 1, wr, gr⟩ o (stackM f.op 3) = m2 := ⟨_, rfl⟩
  have HE : Hid (regM ⟨f, i, nd, rg, wr, gr⟩ o = { m2 with i := { m2.i with a := o.reg } }) := Lib.hid (by
    have e : placeM ⟨f, i, nd, rg, wr, gr⟩ = 3 := by unfold placeM; rw [if_neg hs]; exact hr
    unfold regM
    rw [e, hm2]
    unfold putM
    simp)
  have HSt : Hid (∀ u, (∃ v, v = stackM f.op 3) → u.cell? ⟨p, 1, none⟩ = some (.int .i64 f.op) → Calls Tryz.prog 75 #[.pointer (some ⟨p, 0, none⟩), .int .i64 3] u (Ret (.bool (stackM f.op 3)) u)) := Lib.hid fun u _ hu => stack_any f.op 3 hu
  have HCh : Hid (∀ u, MS u p ⟨f, i, nd, rg + 1, wr, gr⟩ → Calls Tryz.prog 74 #[.pointer (some ⟨p, 0, none⟩), .agg (poA o), .bool (stackM f.op 3)] u (MkP p m2 u)) := Lib.hid fun u hu => by have := check_any hu o (stackM f.op 3); rwa [hm2] at this
  have HcX : Hid (∀ v, RB v X (poA o) 38 → v.cell? ⟨X, 0, none⟩ = some (.int .i64 o.kind) ∧ v.cell? ⟨X, 1, none⟩ = some (.int .i64 o.reg) ∧ v.cell? ⟨X, 2, none⟩ = some (.bool o.stack) ∧ v.cell? ⟨X, 3, none⟩ = some (.bool o.minus) ∧ v.cell? ⟨X, 4, none⟩ = some (.int .u64 o.v) ∧ v.cell? ⟨X, 5, none⟩ = some (.string ⟨o.sym.toArray⟩) ∧ v.cell? ⟨X, 6, none⟩ = some (.int .i64 o.add)) := Lib.hid fun v hv => ⟨RB.cell hv, RB.cell hv, RB.cell hv, RB.cell hv, RB.cell hv, RB.cell hv, RB.cell hv⟩
  have t13 : (shapeI f.op == 13) = false := by simpa using hs
  subst hr
  clear H0 HK h q hW hX hTW hT H2 hW2 hV0 hb0 hm2 hs
  go_enter Tryz.func41, Tryz.ntmps41
  go_wp2_with fail
  rw [HW.out, HX.out]
  refine HSh.out.mono ?_
  rintro e w' ⟨rfl, rfl⟩
  obtain ⟨g1, g18, f18⟩ := HG.out
  clear g1a g18a
  go_wp2_with fail
  rw [HW2.out]
  refine wp_region_held_drew (S := fun v => v.cell? ⟨X, 0, none⟩ = some (.int .i64 o.kind) ∧ v.cell? ⟨X, 1, none⟩ = some (.int .i64 o.reg) ∧ v.cell? ⟨X, 2, none⟩ = some (.bool o.stack) ∧ v.cell? ⟨X, 3, none⟩ = some (.bool o.minus) ∧ v.cell? ⟨X, 4, none⟩ = some (.int .u64 o.v) ∧ v.cell? ⟨X, 5, none⟩ = some (.string ⟨o.sym.toArray⟩) ∧ v.cell? ⟨X, 6, none⟩ = some (.int .i64 o.add)) (by kernel_rfl) (by rw [HV0.out]; exact HcX.out _ H3.out.o) (fun hHeld => ?_)
  rw [HV0.out]
  have hHeld0 := HcX.out _ H3.out.o
  clear hHeld
  refine tk 0 ?_ rfl hHeld0 ?_ ?_
  rotate_left 1
  · intro w hS; obtain ⟨_, _, _, _, _, _, _⟩ := hS; go_simp; (try with_reducible rfl)
  (try simp only [Act.put, List.setIfInBounds_toArray, List.set_cons_zero, List.set_cons_succ])
  refine tk 1 ?_ rfl hHeld0 ?_ ?_
  rotate_left 1
  · intro w hS; obtain ⟨_, _, _, _, _, _, _⟩ := hS; go_simp; (try with_reducible rfl)
  (try simp only [Act.put, List.setIfInBounds_toArray, List.set_cons_zero, List.set_cons_succ])
  refine tk 2 ?_ rfl hHeld0 ?_ ?_
  rotate_left 1
  · intro w hS; obtain ⟨_, _, _, _, _, _, _⟩ := hS; go_simp; (try with_reducible rfl)
  (try simp only [Act.put, List.setIfInBounds_toArray, List.set_cons_zero, List.set_cons_succ])
  refine tk 3 ?_ rfl hHeld0 ?_ ?_
  rotate_left 1
  · intro w hS; obtain ⟨_, _, _, _, _, _, _⟩ := hS; go_simp; (try with_reducible rfl)
  (try simp only [Act.put, List.setIfInBounds_toArray, List.set_cons_zero, List.set_cons_succ])
  refine rd 4 rfl (fun K hK => ?_)
  go_simp
  go_wp2_with (go_at_call 75; refine (HSt.out _ ⟨_, rfl⟩ H3.out.m.mc.c1).mono ?_; rintro e w' ⟨rfl, rfl⟩)
  refine hK.out _ _ (HcX.out _ H3.out.o) (fun hHeld1 => ?_)
  clear hK K
  refine rd 5 rfl (fun K hK => ?_)
  go_simp
  go_wp2_with (go_at_call 74; refine (HCh.out _ H3.out.m).mono ?_; rintro e v1 ⟨rfl, hm, hk⟩)
  have H4 := Lib.hid (H3.out.kept hk hm)
  have HK4 := Lib.hid (KP.trans' HK3.out hk)
  clear hm hk
  refine hK.out _ _ (HcX.out _ H4.out.o) (fun hHeld2 => ?_)
  clear hK K
  refine wpAnyH_done (by kernel_rfl) ?_ _
  have x1 : v1.cell? ⟨X, 1, none⟩ = some (.int .i64 o.reg) := H4.out.o.cell
  have g4 := H4.out.m.mc
  obtain ⟨v4, k4⟩ := g4.k 7 (by decide)
  have f4 := g4.f 7
  have HN := Lib.hid (H4.out.set (m' := { m2 with i := { m2.i with a := o.reg } }) 7 (.int .i64 o.reg) rfl)
  have HKN := Lib.hid (KP.trans' HK4.out (KP.step p v1 7 (.int .i64 o.reg)))
  clear g4 H3 HK3 hHeld0 hHeld1 hHeld2
  go_wp2
  exact ⟨rfl, _, results_none rfl _ _ _, rfl, by rw [HE.out]; exact HN.out.m, HKN.out⟩
end Go.Proofs.YthejefldnpeciaaGreatDoor
