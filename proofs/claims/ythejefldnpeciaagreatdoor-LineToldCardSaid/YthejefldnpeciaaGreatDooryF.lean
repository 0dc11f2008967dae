/- line: the maker's symbol, memory, shift. -/
import Derived.Test.YthejefldnpeciaaGreatDooryE
namespace Go.Proofs.YthejefldnpeciaaGreatDoor
set_option linter.unusedVariables false
set_option linter.unusedSimpArgs false
open Go.ChangeShapes Go.WideShapes Go.Deep Go.RowKit

/-- The walk's start: the operand in its box. -/
structure St0 (w W : World) (p X : Nat) (m : Mk) (o : Po) : Prop where
  e : w.alloc (.cells (poA o) 38) = W
  x : w.heap.size = X
  mo : MO W p X m o
  k : KP p w W
  t : TL W p
  g1 : (w.alloc (.cells (poA o) 38)).cell? ⟨p, 1, none⟩ = some (.int .i64 m.f.op)
theorem st0 {w : World} {p : Nat} {m : Mk} (h : MS w p m) (hT : TL w p) (o : Po) : ∃ W X, St0 w W p X m o :=
  ⟨_, _, rfl, rfl, MO.mk0 h o, KP.lies (KP.refl _ _) _, hT.kept (KP.lies (KP.refl _ _) _), (MO.mk0 h o).m.mc.c1⟩
set_option maxRecDepth 100000 in
set_option maxHeartbeats 3000000 in
theorem symbol_lack {w : World} {p : Nat} {m : Mk} (h : MS w p m) (hT : TL w p) (o : Po) (hs : ¬ m.f.op = 39) :
    Calls Tryz.prog 43 #[.pointer (some ⟨p, 0, none⟩), .agg (poA o)] w (MkP p (symbolM m o) w) := by
  obtain ⟨W, X, hS⟩ := st0 h hT o
  have g1 := hS.g1
  have HE : Hid (symbolM m o = lackM m o) := Lib.hid (by unfold symbolM; rw [if_pos hs])
  have t1 : (m.f.op == 39) = false := by simpa using hs
  obtain ⟨c0, c1, c2, c3, c4, c5, c6, cf, cl⟩ := RB.seven hS.mo.o
  rw [← hS.e, ← hS.x] at c0 c1 c2 c3 c4 c5 c6
  have HL := Lib.hid (lack_any hS.mo.m o)
  have HS := Lib.hid hS
  clear h hT hS hs
  go_enter Tryz.func43, Tryz.ntmps43
  go_wp2_with fail
  rw [HS.out.e]
  refine HL.out.mono ?_
  rintro e u ⟨rfl, hm, hk⟩
  have HM := Lib.hid hm
  have HK := Lib.hid (KP.trans' HS.out.k hk)
  clear hm hk
  go_wp2
  exact ⟨rfl, _, results_none rfl _ _ _, rfl, by rw [HE.out]; exact HM.out, HK.out⟩
set_option maxRecDepth 100000 in
set_option maxHeartbeats 3000000 in
theorem symbol_cond {w : World} {p : Nat} {m : Mk} (h : MS w p m) (hT : TL w p) (o : Po) (hs : m.f.op = 39) :
    Calls Tryz.prog 43 #[.pointer (some ⟨p, 0, none⟩), .agg (poA o)] w (MkP p (symbolM m o) w) := by
  obtain ⟨W, X, hS⟩ := st0 h hT o
  have g1 := hS.g1
  rw [hs] at g1
  obtain ⟨a, b, hab⟩ : ∃ a b, condM o.sym = (a, b) := ⟨_, _, rfl⟩
  have HC : Hid (Calls Tryz.prog 16 #[.string ⟨o.sym.toArray⟩] W (Ret (two .i64 .i64 (a, b)) W)) := Lib.hid (by have := Cond_any ⟨o.sym.toArray⟩ W hS.t.tab.2.2; rwa [show (⟨o.sym.toArray⟩ : ByteArray).data.toList = o.sym by simp, hab] at this)
  obtain ⟨c0, c1, c2, c3, c4, c5, c6, cf, cl⟩ := RB.seven hS.mo.o
  rw [← hS.e, ← hS.x] at c5
  have hE : symbolM m o = { m with i := { m.i with cond := a }, wrong := m.wrong || b != 0 || o.add != 0 } := by
    unfold symbolM; rw [if_neg (by rw [hs]; simp), hab]
  have q := hS.mo.m.mc
  obtain ⟨v12, k12⟩ := q.k 12 (by decide)
  have f12 := q.f 12
  obtain ⟨v19, k19⟩ := q.k 19 (by decide)
  have f19 := q.f 19
  have HA := hS.mo.set (m' := { m with i := { m.i with cond := a } }) 12 (.int .i64 a) rfl
  have HW1 := hS.mo.set (m' := { m with wrong := true }) 19 (.bool true) rfl
  have HW2 := Lib.hid (HW1.set (m' := { m with i := { m.i with cond := a }, wrong := true }) 12 (.int .i64 a) rfl)
  have q2 := HW1.m.mc
  obtain ⟨y12, z12⟩ := q2.k 12 (by decide)
  have e12 := q2.f 12
  have HKA := Lib.hid (KP.trans' hS.k (KP.step p W 12 (.int .i64 a)))
  have HKW := Lib.hid (KP.trans' (KP.trans' hS.k (KP.step p W 19 (.bool true))) (KP.step p _ 12 (.int .i64 a)))
  have HA' := Lib.hid HA
  have HS := Lib.hid hS
  clear h hT hS hs q q2 HA HW1 hab
  have hc : ((b == 0) = false ∧ Hid (symbolM m o = { m with i := { m.i with cond := a }, wrong := true })) ∨ ((b == 0) = true ∧ (o.add == 0) = false ∧ Hid (symbolM m o = { m with i := { m.i with cond := a }, wrong := true })) ∨ ((b == 0) = true ∧ (o.add == 0) = true ∧ Hid (symbolM m o = { m with i := { m.i with cond := a } })) := by
    rw [hE]
    cases hb : (b == 0)
    · exact .inl ⟨rfl, Lib.hid (by simp [bne, hb])⟩
    · cases ha : (o.add == 0)
      · exact .inr (.inl ⟨rfl, rfl, Lib.hid (by simp [bne, ha])⟩)
      · exact .inr (.inr ⟨rfl, rfl, Lib.hid (by simp [bne, ha, hb])⟩)
  clear hE
  rcases hc with ⟨hb, HE⟩ | ⟨hb, ha, HE⟩ | ⟨hb, ha, HE⟩
  all_goals
    have hb2 : (b != 0) = !(b == 0) := rfl
    rw [hb] at hb2
    have ha2 : (o.add != 0) = !(o.add == 0) := rfl
    (try rw [ha] at ha2)
    (first | (simp only [Bool.not_true, Bool.not_false] at hb2 ha2) | (simp only [Bool.not_true, Bool.not_false] at hb2; clear ha2))
    go_enter Tryz.func43, Tryz.ntmps43
    go_wp2_with fail
    rw [HS.out.e, HS.out.x]
    refine HC.out.mono ?_
    rintro e w' ⟨rfl, rfl⟩
    clear g1 c5
    go_wp2
    first
    | exact ⟨rfl, _, results_none rfl _ _ _, rfl, by rw [HE.out]; exact HA'.out.m, HKA.out⟩
    | exact ⟨rfl, _, results_none rfl _ _ _, rfl, by rw [HE.out]; exact HW2.out.m, HKW.out⟩
theorem symbol_any {w : World} {p : Nat} {m : Mk} (h : MS w p m) (hT : TL w p) (o : Po) :
    Calls Tryz.prog 43 #[.pointer (some ⟨p, 0, none⟩), .agg (poA o)] w (MkP p (symbolM m o) w) := by
  by_cases hs : m.f.op = 39
  · exact symbol_cond h hT o hs
  · exact symbol_lack h hT o hs
set_option maxRecDepth 100000 in
set_option maxHeartbeats 3000000 in
theorem memory_any {w : World} {p : Nat} {m : Mk} (h : MS w p m) (hT : TL w p) (o : Po) (hv : u64ok o.v) :
    Calls Tryz.prog 44 #[.pointer (some ⟨p, 0, none⟩), .agg (poA o)] w (MkP p (memoryM m o) w) := by
  obtain ⟨W, X, hS⟩ := st0 h hT o
  obtain ⟨c0, c1, c2, c3, c4, c5, c6, cf, cl⟩ := RB.seven hS.mo.o
  rw [← hS.e, ← hS.x] at c0 c1 c2 c3 c4 c5 c6
  obtain ⟨m1, hm1⟩ : ∃ m1, checkM m o true = m1 := ⟨_, rfl⟩
  have HC : Hid (Calls Tryz.prog 74 #[.pointer (some ⟨p, 0, none⟩), .agg (poA o), .bool true] W (MkP p m1 W)) := Lib.hid (by rw [← hm1]; exact check_any hS.mo.m o true)
  have HL : Hid (∀ u, MS u p { m1 with i := { m1.i with n := o.reg } } → Calls Tryz.prog 45 #[.pointer (some ⟨p, 0, none⟩), .agg (poA o)] u (MkP p (lackM { m1 with i := { m1.i with n := o.reg } } o) u)) := Lib.hid fun u hu => lack_any hu o
  have HG : Hid (∀ u, MS u p { m1 with i := { m1.i with n := o.reg } } → Calls Tryz.prog 76 #[.pointer (some ⟨p, 0, none⟩), .bool o.minus, .int .u64 o.v] u (SgP p (signedM { m1 with i := { m1.i with n := o.reg } } o.minus o.v) (signS o.minus o.v).1 u)) := Lib.hid fun u hu => signed_any hu o.minus o.v hv.1 hv.2
  have HE1 : Hid (o.sym ≠ [] → memoryM m o = lackM { m1 with i := { m1.i with n := o.reg } } o) := Lib.hid (fun hn => by unfold memoryM; rw [hm1]; simp only [if_pos hn])
  have HE2 : Hid (o.sym = [] → memoryM m o = immM { m1 with i := { m1.i with n := o.reg } } o.minus o.v) := Lib.hid (fun hn => by unfold memoryM; rw [hm1]; simp [hn])
  have HS := Lib.hid hS
  have HV := Lib.hid hv
  clear h hT hS hm1 hv
  go_enter Tryz.func44, Tryz.ntmps44
  go_wp2_with fail
  rw [HS.out.e, HS.out.x]
  refine HC.out.mono ?_
  rintro e u ⟨rfl, hm, hk⟩
  have HU := Lib.hid (HS.out.mo.kept hk hm)
  have HK := Lib.hid (KP.trans' HS.out.k hk)
  clear hm hk c0 c1 c2 c3 c4 c5 c6 cf cl HC
  obtain ⟨c0, c1, c2, c3, c4, c5, c6, cf, cl⟩ := RB.seven HU.out.o
  have q := HU.out.m.mc
  obtain ⟨v5, k5⟩ := q.k 5 (by decide)
  have f5 := q.f 5
  have HN := Lib.hid (HU.out.set (m' := { m1 with i := { m1.i with n := o.reg } }) 5 (.int .i64 o.reg) rfl)
  have HKN := Lib.hid (KP.trans' HK.out (KP.step p u 5 (.int .i64 o.reg)))
  obtain ⟨d0, d1, d2, d3, d4, d5, d6, df, dl⟩ := RB.seven HN.out.o
  clear q
  cases hsy : o.sym with
  | nil =>
    have HE := Lib.hid (HE2.out hsy)
    rw [hsy] at d5
    clear HE1 HE2 hsy HL
    go_wp2_with fail
    refine (HG.out _ HN.out.m).mono ?_
    rintro e u2 ⟨rfl, hm, hk⟩
    have HI : Hid ((signedM { m1 with i := { m1.i with n := o.reg } } o.minus o.v).i = { m1.i with n := o.reg }) := Lib.hid (by unfold signedM; split <;> rfl)
    have HE' : Hid (memoryM m o = { signedM { m1 with i := { m1.i with n := o.reg } } o.minus o.v with i := { { m1.i with n := o.reg } with imm := (signS o.minus o.v).1 } }) := Lib.hid (by rw [HE.out]; rfl)
    generalize signedM { m1 with i := { m1.i with n := o.reg } } o.minus o.v = m2 at *
    generalize (signS o.minus o.v).1 = a at *
    have HU2 := Lib.hid (HN.out.kept hk hm)
    have HK2 := Lib.hid (KP.trans' HKN.out hk)
    clear hm hk
    have q := HU2.out.m.mc
    obtain ⟨v8, k8⟩ := q.k 8 (by decide)
    have f8 := q.f 8
    have HN2 := Lib.hid (HU2.out.set (m' := { m2 with i := { m2.i with imm := a } }) 8 (.int .i64 a) rfl)
    have HKN2 := Lib.hid (KP.trans' HK2.out (KP.step p u2 8 (.int .i64 a)))
    clear q
    go_wp2
    exact ⟨rfl, _, results_none rfl _ _ _, rfl, by rw [HE'.out]; have := HN2.out.m; rw [HI.out] at this; exact this, HKN2.out⟩
  | cons x t =>
    have HE := Lib.hid (HE1.out (by rw [hsy]; simp))
    have hne : o.sym.isEmpty = false := by rw [hsy]; rfl
    clear HE1 HE2 hsy HG
    go_wp2_with fail
    refine (HL.out _ HN.out.m).mono ?_
    rintro e u2 ⟨rfl, hm, hk⟩
    have HM := Lib.hid hm
    have HKM := Lib.hid (KP.trans' HKN.out hk)
    clear hm hk
    go_wp2
    exact ⟨rfl, _, results_none rfl _ _ _, rfl, by rw [HE.out]; exact HM.out, HKM.out⟩
end Go.Proofs.YthejefldnpeciaaGreatDoor
