/- line: the maker's add. -/
import Derived.Test.YthejefldnpeciaaGreatDooryG
namespace Go.Proofs.YthejefldnpeciaaGreatDoor
set_option linter.unusedVariables false
set_option linter.unusedSimpArgs false
open Go.ChangeShapes Go.WideShapes Go.Deep Go.RowKit

theorem reg_any {w : World} {p : Nat} {m : Mk} (h : MS w p m) (hT : TL w p) (o : Po) (hq : 0 ≤ m.regs ∧ m.regs ≤ 3) :
    Calls Tryz.prog 41 #[.pointer (some ⟨p, 0, none⟩), .agg (poA o)] w (MkP p (regM m o) w) := by
  obtain ⟨f, i, nd, rg, wr, gr⟩ := m
  by_cases hs : shapeI f.op = 13
  · exact reg_13 h hT o hs hq
  · have hq' : rg = 0 ∨ rg = 1 ∨ rg = 2 ∨ rg = 3 := by have := hq.1; have := hq.2; simp only at *; omega
    rcases hq' with e | e | e | e
    · exact reg_0 h hT o hs e
    · exact reg_1 h hT o hs e
    · exact reg_2 h hT o hs e
    · exact reg_3 h hT o hs e
set_option maxRecDepth 100000 in
set_option maxHeartbeats 1500000 in
theorem add_1 {w : World} {p : Nat} {m : Mk} (h : MS w p m) (hT : TL w p) (o : Po) (hv : u64ok o.v) (hq : 0 ≤ m.regs ∧ m.regs ≤ 3) (hk : o.kind = 1) :
    Calls Tryz.prog 22 #[.pointer (some ⟨p, 0, none⟩), .agg (poA o)] w (MkP p (regM m o) w) := by
  obtain ⟨W, X, hS⟩ := st0 h hT o
  obtain ⟨c0, c1, c2, c3, c4, c5, c6, cf, cl⟩ := RB.seven hS.mo.o
  rw [← hS.e, ← hS.x] at c0 c1 c2 c3 c4 c5 c6
  rw [hk] at c0
  have HC : Hid (Calls Tryz.prog 41 #[.pointer (some ⟨p, 0, none⟩), .agg (poA o)] W (MkP p (regM m o) W)) := Lib.hid (reg_any hS.mo.m hS.t o hq)
  have HS := Lib.hid hS
  have HA : Hid (poA o = #[.int .i64 1, .int .i64 o.reg, .bool o.stack, .bool o.minus, .int .u64 o.v, .string ⟨o.sym.toArray⟩, .int .i64 o.add]) := Lib.hid (by show #[_, _, _, _, _, _, _] = _; rw [hk])
  clear h hT hS hv hk hq
  go_enter Tryz.func22, Tryz.ntmps22
  go_wp2_with fail
  rw [HS.out.e]
  (try rw [← HA.out])
  refine HC.out.mono ?_
  rintro e u ⟨rfl, hm, hk⟩
  have HM := Lib.hid hm
  have HK := Lib.hid (KP.trans' HS.out.k hk)
  clear hm hk
  go_wp2
  exact ⟨rfl, _, results_none rfl _ _ _, rfl, HM.out, HK.out⟩
set_option maxRecDepth 100000 in
set_option maxHeartbeats 1500000 in
theorem add_2 {w : World} {p : Nat} {m : Mk} (h : MS w p m) (hT : TL w p) (o : Po) (hv : u64ok o.v) (hk : o.kind = 2) :
    Calls Tryz.prog 22 #[.pointer (some ⟨p, 0, none⟩), .agg (poA o)] w (MkP p (numberM m o) w) := by
  obtain ⟨W, X, hS⟩ := st0 h hT o
  obtain ⟨c0, c1, c2, c3, c4, c5, c6, cf, cl⟩ := RB.seven hS.mo.o
  rw [← hS.e, ← hS.x] at c0 c1 c2 c3 c4 c5 c6
  rw [hk] at c0
  have HC : Hid (Calls Tryz.prog 42 #[.pointer (some ⟨p, 0, none⟩), .agg (poA o)] W (MkP p (numberM m o) W)) := Lib.hid (number_any hS.mo.m hS.t o hv)
  have HS := Lib.hid hS
  have HA : Hid (poA o = #[.int .i64 2, .int .i64 o.reg, .bool o.stack, .bool o.minus, .int .u64 o.v, .string ⟨o.sym.toArray⟩, .int .i64 o.add]) := Lib.hid (by show #[_, _, _, _, _, _, _] = _; rw [hk])
  clear h hT hS hv hk
  go_enter Tryz.func22, Tryz.ntmps22
  go_wp2_with fail
  rw [HS.out.e]
  (try rw [← HA.out])
  refine HC.out.mono ?_
  rintro e u ⟨rfl, hm, hk⟩
  have HM := Lib.hid hm
  have HK := Lib.hid (KP.trans' HS.out.k hk)
  clear hm hk
  go_wp2
  exact ⟨rfl, _, results_none rfl _ _ _, rfl, HM.out, HK.out⟩
set_option maxRecDepth 100000 in
set_option maxHeartbeats 1500000 in
theorem add_3 {w : World} {p : Nat} {m : Mk} (h : MS w p m) (hT : TL w p) (o : Po) (hv : u64ok o.v) (hk : o.kind = 3) :
    Calls Tryz.prog 22 #[.pointer (some ⟨p, 0, none⟩), .agg (poA o)] w (MkP p (symbolM m o) w) := by
  obtain ⟨W, X, hS⟩ := st0 h hT o
  obtain ⟨c0, c1, c2, c3, c4, c5, c6, cf, cl⟩ := RB.seven hS.mo.o
  rw [← hS.e, ← hS.x] at c0 c1 c2 c3 c4 c5 c6
  rw [hk] at c0
  have HC : Hid (Calls Tryz.prog 43 #[.pointer (some ⟨p, 0, none⟩), .agg (poA o)] W (MkP p (symbolM m o) W)) := Lib.hid (symbol_any hS.mo.m hS.t o)
  have HS := Lib.hid hS
  have HA : Hid (poA o = #[.int .i64 3, .int .i64 o.reg, .bool o.stack, .bool o.minus, .int .u64 o.v, .string ⟨o.sym.toArray⟩, .int .i64 o.add]) := Lib.hid (by show #[_, _, _, _, _, _, _] = _; rw [hk])
  clear h hT hS hv hk
  go_enter Tryz.func22, Tryz.ntmps22
  go_wp2_with fail
  rw [HS.out.e]
  (try rw [← HA.out])
  refine HC.out.mono ?_
  rintro e u ⟨rfl, hm, hk⟩
  have HM := Lib.hid hm
  have HK := Lib.hid (KP.trans' HS.out.k hk)
  clear hm hk
  go_wp2
  exact ⟨rfl, _, results_none rfl _ _ _, rfl, HM.out, HK.out⟩
set_option maxRecDepth 100000 in
set_option maxHeartbeats 1500000 in
theorem add_4 {w : World} {p : Nat} {m : Mk} (h : MS w p m) (hT : TL w p) (o : Po) (hv : u64ok o.v) (hk : o.kind = 4) :
    Calls Tryz.prog 22 #[.pointer (some ⟨p, 0, none⟩), .agg (poA o)] w (MkP p (memoryM m o) w) := by
  obtain ⟨W, X, hS⟩ := st0 h hT o
  obtain ⟨c0, c1, c2, c3, c4, c5, c6, cf, cl⟩ := RB.seven hS.mo.o
  rw [← hS.e, ← hS.x] at c0 c1 c2 c3 c4 c5 c6
  rw [hk] at c0
  have HC : Hid (Calls Tryz.prog 44 #[.pointer (some ⟨p, 0, none⟩), .agg (poA o)] W (MkP p (memoryM m o) W)) := Lib.hid (memory_any hS.mo.m hS.t o hv)
  have HS := Lib.hid hS
  have HA : Hid (poA o = #[.int .i64 4, .int .i64 o.reg, .bool o.stack, .bool o.minus, .int .u64 o.v, .string ⟨o.sym.toArray⟩, .int .i64 o.add]) := Lib.hid (by show #[_, _, _, _, _, _, _] = _; rw [hk])
  clear h hT hS hv hk
  go_enter Tryz.func22, Tryz.ntmps22
  go_wp2_with fail
  rw [HS.out.e]
  (try rw [← HA.out])
  refine HC.out.mono ?_
  rintro e u ⟨rfl, hm, hk⟩
  have HM := Lib.hid hm
  have HK := Lib.hid (KP.trans' HS.out.k hk)
  clear hm hk
  go_wp2
  exact ⟨rfl, _, results_none rfl _ _ _, rfl, HM.out, HK.out⟩
set_option maxRecDepth 100000 in
set_option maxHeartbeats 1500000 in
theorem add_6 {w : World} {p : Nat} {m : Mk} (h : MS w p m) (hT : TL w p) (o : Po) (hv : u64ok o.v) (hk : o.kind = 6) :
    Calls Tryz.prog 22 #[.pointer (some ⟨p, 0, none⟩), .agg (poA o)] w (MkP p (lackM m o) w) := by
  obtain ⟨W, X, hS⟩ := st0 h hT o
  obtain ⟨c0, c1, c2, c3, c4, c5, c6, cf, cl⟩ := RB.seven hS.mo.o
  rw [← hS.e, ← hS.x] at c0 c1 c2 c3 c4 c5 c6
  rw [hk] at c0
  have HC : Hid (Calls Tryz.prog 45 #[.pointer (some ⟨p, 0, none⟩), .agg (poA o)] W (MkP p (lackM m o) W)) := Lib.hid (lack_any hS.mo.m o)
  have HS := Lib.hid hS
  have HA : Hid (poA o = #[.int .i64 6, .int .i64 o.reg, .bool o.stack, .bool o.minus, .int .u64 o.v, .string ⟨o.sym.toArray⟩, .int .i64 o.add]) := Lib.hid (by show #[_, _, _, _, _, _, _] = _; rw [hk])
  clear h hT hS hv hk
  go_enter Tryz.func22, Tryz.ntmps22
  go_wp2_with fail
  rw [HS.out.e]
  (try rw [← HA.out])
  refine HC.out.mono ?_
  rintro e u ⟨rfl, hm, hk⟩
  have HM := Lib.hid hm
  have HK := Lib.hid (KP.trans' HS.out.k hk)
  clear hm hk
  go_wp2
  exact ⟨rfl, _, results_none rfl _ _ _, rfl, HM.out, HK.out⟩
set_option maxRecDepth 100000 in
set_option maxHeartbeats 1500000 in
theorem add_7 {w : World} {p : Nat} {m : Mk} (h : MS w p m) (hT : TL w p) (o : Po) (hv : u64ok o.v) (hk : o.kind = 7) :
    Calls Tryz.prog 22 #[.pointer (some ⟨p, 0, none⟩), .agg (poA o)] w (MkP p (shiftM m o) w) := by
  obtain ⟨W, X, hS⟩ := st0 h hT o
  obtain ⟨c0, c1, c2, c3, c4, c5, c6, cf, cl⟩ := RB.seven hS.mo.o
  rw [← hS.e, ← hS.x] at c0 c1 c2 c3 c4 c5 c6
  rw [hk] at c0
  have HC : Hid (Calls Tryz.prog 46 #[.pointer (some ⟨p, 0, none⟩), .agg (poA o)] W (MkP p (shiftM m o) W)) := Lib.hid (shift_any hS.mo.m hS.t o hv)
  have HS := Lib.hid hS
  have HA : Hid (poA o = #[.int .i64 7, .int .i64 o.reg, .bool o.stack, .bool o.minus, .int .u64 o.v, .string ⟨o.sym.toArray⟩, .int .i64 o.add]) := Lib.hid (by show #[_, _, _, _, _, _, _] = _; rw [hk])
  clear h hT hS hv hk
  go_enter Tryz.func22, Tryz.ntmps22
  go_wp2_with fail
  rw [HS.out.e]
  (try rw [← HA.out])
  refine HC.out.mono ?_
  rintro e u ⟨rfl, hm, hk⟩
  have HM := Lib.hid hm
  have HK := Lib.hid (KP.trans' HS.out.k hk)
  clear hm hk
  go_wp2
  exact ⟨rfl, _, results_none rfl _ _ _, rfl, HM.out, HK.out⟩
set_option maxRecDepth 100000 in
set_option maxHeartbeats 2000000 in
theorem add_5 {w : World} {p : Nat} {m : Mk} (h : MS w p m) (hT : TL w p) (o : Po) (hk : o.kind = 5) :
    Calls Tryz.prog 22 #[.pointer (some ⟨p, 0, none⟩), .agg (poA o)] w (MkP p (poolM m o) w) := by
  obtain ⟨W, X, hS⟩ := st0 h hT o
  obtain ⟨c0, c1, c2, c3, c4, c5, c6, cf, cl⟩ := RB.seven hS.mo.o
  have d0 := c0
  rw [← hS.e, ← hS.x] at d0
  rw [hk] at d0 c0
  have q := hS.mo.m.mc
  have g2 := q.c2
  have f := q.f
  obtain ⟨v13, g13⟩ := q.k 13 (by decide)
  obtain ⟨v14, g14⟩ := q.k 14 (by decide)
  obtain ⟨v15, g15⟩ := q.k 15 (by decide)
  obtain ⟨v16, g16⟩ := q.k 16 (by decide)
  obtain ⟨v17, g17⟩ := q.k 17 (by decide)
  have HO := Lib.hid (MO.set5 (hS.mo.next (below_drewN (Below.refl _ _) 1)) ⟨m.f.need, o.sym, o.add, o.minus, o.v⟩)
  have HY := Lib.hid (KP.set5 (KP.drewN hS.k 1) ⟨m.f.need, o.sym, o.add, o.minus, o.v⟩)
  have HS := Lib.hid hS
  have HA : Hid (poA o = #[.int .i64 5, .int .i64 o.reg, .bool o.stack, .bool o.minus, .int .u64 o.v, .string ⟨o.sym.toArray⟩, .int .i64 o.add]) := Lib.hid (by show #[_, _, _, _, _, _, _] = _; rw [hk])
  clear h hT hS hk q
  go_enter Tryz.func22, Tryz.ntmps22
  go_wp2_with fail
  rw [HS.out.e, HS.out.x]
  go_still_tail 17, (by kernel_rfl)
  change wpList _ _ _ _ _ W.drew
  have g13' : W.drew.cell? ⟨p, 13, none⟩ = some v13 := g13
  have g14' : W.drew.cell? ⟨p, 14, none⟩ = some v14 := g14
  have g15' : W.drew.cell? ⟨p, 15, none⟩ = some v15 := g15
  have g16' : W.drew.cell? ⟨p, 16, none⟩ = some v16 := g16
  have g17' : W.drew.cell? ⟨p, 17, none⟩ = some v17 := g17
  have f' : ∀ j, W.drew.frozen? ⟨p, j, none⟩ = false := f
  go_wp2
  exact ⟨rfl, _, results_none rfl _ _ _, rfl, HO.out.m, HY.out⟩
theorem add_any {w : World} {p : Nat} {m : Mk} (h : MS w p m) (hT : TL w p) (o : Po) (hv : u64ok o.v) (hk : 1 ≤ o.kind ∧ o.kind ≤ 7) (hq : 0 ≤ m.regs ∧ m.regs ≤ 3) :
    Calls Tryz.prog 22 #[.pointer (some ⟨p, 0, none⟩), .agg (poA o)] w (MkP p (addM m o) w) := by
  have hc : o.kind = 1 ∨ o.kind = 2 ∨ o.kind = 3 ∨ o.kind = 4 ∨ o.kind = 5 ∨ o.kind = 6 ∨ o.kind = 7 := by omega
  rcases hc with e | e | e | e | e | e | e
  · rw [show addM m o = regM m o by unfold addM; rw [e]; rfl]; exact add_1 h hT o hv hq e
  · rw [show addM m o = numberM m o by unfold addM; rw [e]; rfl]; exact add_2 h hT o hv e
  · rw [show addM m o = symbolM m o by unfold addM; rw [e]; rfl]; exact add_3 h hT o hv e
  · rw [show addM m o = memoryM m o by unfold addM; rw [e]; rfl]; exact add_4 h hT o hv e
  · rw [show addM m o = poolM m o by unfold addM; rw [e]; rfl]; exact add_5 h hT o e
  · rw [show addM m o = lackM m o by unfold addM; rw [e]; rfl]; exact add_6 h hT o hv e
  · rw [show addM m o = shiftM m o by unfold addM; rw [e]; rfl]; exact add_7 h hT o hv e
end Go.Proofs.YthejefldnpeciaaGreatDoor
