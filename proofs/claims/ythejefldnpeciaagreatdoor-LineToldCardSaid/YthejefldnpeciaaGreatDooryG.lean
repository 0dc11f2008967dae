/- line: the maker's shift and add. -/
import Derived.Test.YthejefldnpeciaaGreatDooryF
namespace Go.Proofs.YthejefldnpeciaaGreatDoor
set_option linter.unusedVariables false
set_option linter.unusedSimpArgs false
open Go.ChangeShapes Go.WideShapes Go.Deep Go.RowKit

set_option maxRecDepth 100000 in
set_option maxHeartbeats 1500000 in
theorem shift_any {w : World} {p : Nat} {m : Mk} (h : MS w p m) (hT : TL w p) (o : Po) (hv : u64ok o.v) :
    Calls Tryz.prog 46 #[.pointer (some ⟨p, 0, none⟩), .agg (poA o)] w (MkP p (shiftM m o) w) := by
  obtain ⟨W, X, hS⟩ := st0 h hT o
  obtain ⟨c0, c1, c2, c3, c4, c5, c6, cf, cl⟩ := RB.seven hS.mo.o
  rw [← hS.e, ← hS.x] at c4
  obtain ⟨m1, hm1⟩ : ∃ m1, signedM m false o.v = m1 := ⟨_, rfl⟩
  have hf : m1.f = m.f ∧ m1.i = m.i := by rw [← hm1]; unfold signedM; split <;> exact ⟨rfl, rfl⟩
  obtain ⟨a, ha⟩ : ∃ a, (signS false o.v).1 = a := ⟨_, rfl⟩
  have HG : Hid (Calls Tryz.prog 76 #[.pointer (some ⟨p, 0, none⟩), .bool false, .int .u64 o.v] W (SgP p m1 a W)) := Lib.hid (by rw [← hm1, ← ha]; exact signed_any hS.mo.m false o.v hv.1 hv.2)
  obtain ⟨sh, hsh⟩ : ∃ sh, shapeI m.f.op = sh := ⟨_, rfl⟩
  have HSh : Hid (∀ u, TL u p → Calls Tryz.prog 14 #[.int .i64 m1.f.op] u (Ret (.int .i64 sh) u)) := Lib.hid fun u hu => by have := Shape_any m1.f.op u hu.tab.1; rwa [show shapeI m1.f.op = sh by rw [hf.1, hsh]] at this
  have HE1 : Hid (sh = 4 ∨ sh = 5 → shiftM m o = { m1 with i := { { m1.i with amount := a } with shift := o.reg } }) := Lib.hid (fun hc => by
    unfold shiftM
    rw [hm1, ha, if_pos (by rw [hsh]; exact hc), hf.2])
  have HE2 : Hid (¬ (sh = 4 ∨ sh = 5) → o.reg ≠ 0 → shiftM m o = { m1 with i := { m1.i with amount := a }, wrong := true }) := Lib.hid (fun hc hr => by
    unfold shiftM
    rw [hm1, ha, if_neg (by rw [hsh]; exact hc), if_pos hr, hf.2])
  have HE3 : Hid (¬ (sh = 4 ∨ sh = 5) → o.reg = 0 → shiftM m o = { m1 with i := { m1.i with amount := a } }) := Lib.hid (fun hc hr => by
    unfold shiftM
    rw [hm1, ha, if_neg (by rw [hsh]; exact hc), if_neg (by rw [hr]; simp), hf.2])
  have HS := Lib.hid hS
  clear h hT hS hm1 hv hf ha hsh c0 c1 c2 c3 c5 c6 cf cl
  have hc : ((sh == 4) = true ∧ Hid (shiftM m o = { m1 with i := { { m1.i with amount := a } with shift := o.reg } })) ∨ ((sh == 4) = false ∧ (sh == 5) = true ∧ Hid (shiftM m o = { m1 with i := { { m1.i with amount := a } with shift := o.reg } })) ∨
      ((sh == 4) = false ∧ (sh == 5) = false ∧ (o.reg == 0) = false ∧ Hid (shiftM m o = { m1 with i := { m1.i with amount := a }, wrong := true })) ∨ ((sh == 4) = false ∧ (sh == 5) = false ∧ (o.reg == 0) = true ∧ Hid (shiftM m o = { m1 with i := { m1.i with amount := a } })) := by
    by_cases h4 : sh = 4
    · exact .inl ⟨by simpa using h4, Lib.hid (HE1.out (.inl h4))⟩
    · by_cases h5 : sh = 5
      · exact .inr (.inl ⟨by simpa using h4, by simpa using h5, Lib.hid (HE1.out (.inr h5))⟩)
      · by_cases hr : o.reg = 0
        · exact .inr (.inr (.inr ⟨by simpa using h4, by simpa using h5, by simpa using hr, Lib.hid (HE3.out (by omega) hr)⟩))
        · exact .inr (.inr (.inl ⟨by simpa using h4, by simpa using h5, by simpa using hr, Lib.hid (HE2.out (by omega) hr)⟩))
  clear HE1 HE2 HE3
  rcases hc with ⟨t4, HE⟩ | ⟨t4, t5, HE⟩ | ⟨t4, t5, tr, HE⟩ | ⟨t4, t5, tr, HE⟩
  · (try (have tr2 : (o.reg != 0) = !(o.reg == 0) := rfl
          rw [tr] at tr2
          simp only [Bool.not_true, Bool.not_false] at tr2))
    go_enter Tryz.func46, Tryz.ntmps46
    go_wp2_with fail
    rw [HS.out.e, HS.out.x]
    refine HG.out.mono ?_
    rintro e u ⟨rfl, hm, hk⟩
    have HU := Lib.hid (HS.out.mo.kept hk hm)
    have HK := Lib.hid (KP.trans' HS.out.k hk)
    have HTu := Lib.hid (HS.out.t.kept hk)
    clear hm hk c4
    have q := HU.out.m.mc
    obtain ⟨v11, k11⟩ := q.k 11 (by decide)
    have f11 := q.f 11
    have HN := Lib.hid (HU.out.set (m' := { m1 with i := { m1.i with amount := a } }) 11 (.int .i64 a) rfl)
    have HKN := Lib.hid (KP.trans' HK.out (KP.step p u 11 (.int .i64 a)))
    have HTn := Lib.hid (HTu.out.kept (KP.step p u 11 (.int .i64 a)))
    obtain ⟨U, hU⟩ : ∃ U, U = u.setCell ⟨p, 11, none⟩ (.int .i64 a) := ⟨_, rfl⟩
    rw [← hU] at HN HKN HTn
    have HUe := Lib.hid hU.symm
    have q := HN.out.m.mc
    have g1a : World.cell? _ ⟨p, 1, none⟩ = some (.int .i64 m1.f.op) := q.c1
    rw [hU] at g1a
    clear hU q
    go_wp2_with fail
    rw [HUe.out]
    refine (HSh.out _ HTn.out).mono ?_
    rintro e w' ⟨rfl, rfl⟩
    clear g1a k11 f11
    obtain ⟨d0, d1, d2, d3, d4, d5, d6, df, dl⟩ := RB.seven HN.out.o
    have q := HN.out.m.mc
    obtain ⟨v10, k10⟩ := q.k 10 (by decide)
    have f10 := q.f 10
    have HN1 := Lib.hid (HN.out.set (m' := { m1 with i := { { m1.i with amount := a } with shift := o.reg } }) 10 (.int .i64 o.reg) rfl)
    have HK1 := Lib.hid (KP.trans' HKN.out (KP.step p _ 10 (.int .i64 o.reg)))
    clear q
    go_wp2
    exact ⟨rfl, _, results_none rfl _ _ _, rfl, by rw [HE.out]; exact HN1.out.m, HK1.out⟩
  · (try (have tr2 : (o.reg != 0) = !(o.reg == 0) := rfl
          rw [tr] at tr2
          simp only [Bool.not_true, Bool.not_false] at tr2))
    go_enter Tryz.func46, Tryz.ntmps46
    go_wp2_with fail
    rw [HS.out.e, HS.out.x]
    refine HG.out.mono ?_
    rintro e u ⟨rfl, hm, hk⟩
    have HU := Lib.hid (HS.out.mo.kept hk hm)
    have HK := Lib.hid (KP.trans' HS.out.k hk)
    have HTu := Lib.hid (HS.out.t.kept hk)
    clear hm hk c4
    have q := HU.out.m.mc
    obtain ⟨v11, k11⟩ := q.k 11 (by decide)
    have f11 := q.f 11
    have HN := Lib.hid (HU.out.set (m' := { m1 with i := { m1.i with amount := a } }) 11 (.int .i64 a) rfl)
    have HKN := Lib.hid (KP.trans' HK.out (KP.step p u 11 (.int .i64 a)))
    have HTn := Lib.hid (HTu.out.kept (KP.step p u 11 (.int .i64 a)))
    obtain ⟨U, hU⟩ : ∃ U, U = u.setCell ⟨p, 11, none⟩ (.int .i64 a) := ⟨_, rfl⟩
    rw [← hU] at HN HKN HTn
    have HUe := Lib.hid hU.symm
    have q := HN.out.m.mc
    have g1a : World.cell? _ ⟨p, 1, none⟩ = some (.int .i64 m1.f.op) := q.c1
    rw [hU] at g1a
    clear hU q
    go_wp2_with fail
    rw [HUe.out]
    refine (HSh.out _ HTn.out).mono ?_
    rintro e w' ⟨rfl, rfl⟩
    clear g1a k11 f11
    obtain ⟨d0, d1, d2, d3, d4, d5, d6, df, dl⟩ := RB.seven HN.out.o
    have q := HN.out.m.mc
    obtain ⟨v10, k10⟩ := q.k 10 (by decide)
    have f10 := q.f 10
    have HN1 := Lib.hid (HN.out.set (m' := { m1 with i := { { m1.i with amount := a } with shift := o.reg } }) 10 (.int .i64 o.reg) rfl)
    have HK1 := Lib.hid (KP.trans' HKN.out (KP.step p _ 10 (.int .i64 o.reg)))
    clear q
    go_wp2
    exact ⟨rfl, _, results_none rfl _ _ _, rfl, by rw [HE.out]; exact HN1.out.m, HK1.out⟩
  · (try (have tr2 : (o.reg != 0) = !(o.reg == 0) := rfl
          rw [tr] at tr2
          simp only [Bool.not_true, Bool.not_false] at tr2))
    go_enter Tryz.func46, Tryz.ntmps46
    go_wp2_with fail
    rw [HS.out.e, HS.out.x]
    refine HG.out.mono ?_
    rintro e u ⟨rfl, hm, hk⟩
    have HU := Lib.hid (HS.out.mo.kept hk hm)
    have HK := Lib.hid (KP.trans' HS.out.k hk)
    have HTu := Lib.hid (HS.out.t.kept hk)
    clear hm hk c4
    have q := HU.out.m.mc
    obtain ⟨v11, k11⟩ := q.k 11 (by decide)
    have f11 := q.f 11
    have HN := Lib.hid (HU.out.set (m' := { m1 with i := { m1.i with amount := a } }) 11 (.int .i64 a) rfl)
    have HKN := Lib.hid (KP.trans' HK.out (KP.step p u 11 (.int .i64 a)))
    have HTn := Lib.hid (HTu.out.kept (KP.step p u 11 (.int .i64 a)))
    obtain ⟨U, hU⟩ : ∃ U, U = u.setCell ⟨p, 11, none⟩ (.int .i64 a) := ⟨_, rfl⟩
    rw [← hU] at HN HKN HTn
    have HUe := Lib.hid hU.symm
    have q := HN.out.m.mc
    have g1a : World.cell? _ ⟨p, 1, none⟩ = some (.int .i64 m1.f.op) := q.c1
    rw [hU] at g1a
    clear hU q
    go_wp2_with fail
    rw [HUe.out]
    refine (HSh.out _ HTn.out).mono ?_
    rintro e w' ⟨rfl, rfl⟩
    clear g1a k11 f11
    obtain ⟨d0, d1, d2, d3, d4, d5, d6, df, dl⟩ := RB.seven HN.out.o
    have q := HN.out.m.mc
    obtain ⟨v19, k19⟩ := q.k 19 (by decide)
    have f19 := q.f 19
    have HN2 := Lib.hid (HN.out.set (m' := { m1 with i := { m1.i with amount := a }, wrong := true }) 19 (.bool true) rfl)
    have HK2 := Lib.hid (KP.trans' HKN.out (KP.step p _ 19 (.bool true)))
    clear q
    go_wp2
    exact ⟨rfl, _, results_none rfl _ _ _, rfl, by rw [HE.out]; exact HN2.out.m, HK2.out⟩
  · (try (have tr2 : (o.reg != 0) = !(o.reg == 0) := rfl
          rw [tr] at tr2
          simp only [Bool.not_true, Bool.not_false] at tr2))
    go_enter Tryz.func46, Tryz.ntmps46
    go_wp2_with fail
    rw [HS.out.e, HS.out.x]
    refine HG.out.mono ?_
    rintro e u ⟨rfl, hm, hk⟩
    have HU := Lib.hid (HS.out.mo.kept hk hm)
    have HK := Lib.hid (KP.trans' HS.out.k hk)
    have HTu := Lib.hid (HS.out.t.kept hk)
    clear hm hk c4
    have q := HU.out.m.mc
    obtain ⟨v11, k11⟩ := q.k 11 (by decide)
    have f11 := q.f 11
    have HN := Lib.hid (HU.out.set (m' := { m1 with i := { m1.i with amount := a } }) 11 (.int .i64 a) rfl)
    have HKN := Lib.hid (KP.trans' HK.out (KP.step p u 11 (.int .i64 a)))
    have HTn := Lib.hid (HTu.out.kept (KP.step p u 11 (.int .i64 a)))
    obtain ⟨U, hU⟩ : ∃ U, U = u.setCell ⟨p, 11, none⟩ (.int .i64 a) := ⟨_, rfl⟩
    rw [← hU] at HN HKN HTn
    have HUe := Lib.hid hU.symm
    have q := HN.out.m.mc
    have g1a : World.cell? _ ⟨p, 1, none⟩ = some (.int .i64 m1.f.op) := q.c1
    rw [hU] at g1a
    clear hU q
    go_wp2_with fail
    rw [HUe.out]
    refine (HSh.out _ HTn.out).mono ?_
    rintro e w' ⟨rfl, rfl⟩
    clear g1a k11 f11
    obtain ⟨d0, d1, d2, d3, d4, d5, d6, df, dl⟩ := RB.seven HN.out.o
    have q := HN.out.m.mc
    clear q
    go_wp2
    exact ⟨rfl, _, results_none rfl _ _ _, rfl, by rw [HE.out]; exact HN.out.m, HKN.out⟩
end Go.Proofs.YthejefldnpeciaaGreatDoor
