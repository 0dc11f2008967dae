/- line: the maker's methods. -/
import Derived.Test.YthejefldnpeciaaGreatDooryA
import Derived.Test.YthejefldnpeciaaGreatDoorkON
import Derived.StillTailTactics
import Derived.Deep.QuietTactic
import Derived.BigQuiet
namespace Go.Proofs.YthejefldnpeciaaGreatDoor
set_option linter.unusedVariables false
set_option linter.unusedSimpArgs false
open Go.ChangeShapes Go.WideShapes Go.Deep Go.RowKit

theorem st_a (op place : Int) (h : op = 4 ∨ op = 5) : stackM op place = (place == 0 || place == 1) := by unfold stackM; rw [if_pos h]
theorem st_b (op place : Int) (h : op = 6 ∨ op = 7) : stackM op place = (place == 1) := by unfold stackM; rw [if_neg (by omega), if_pos h]
theorem st_c (op place : Int) (h : op = 8 ∨ op = 9 ∨ op = 10) : stackM op place = (place == 0) := by unfold stackM; rw [if_neg (by omega), if_neg (by omega), if_pos h]
theorem st_d (op place : Int) (h : ¬ (4 ≤ op ∧ op ≤ 10)) : stackM op place = false := by unfold stackM; rw [if_neg (by omega), if_neg (by omega), if_neg (by omega)]
set_option maxRecDepth 100000 in
set_option maxHeartbeats 2000000 in
theorem stack_any {w : World} {p : Nat} (op place : Int) (hc : w.cell? ⟨p, 1, none⟩ = some (.int .i64 op)) :
    Calls Tryz.prog 75 #[.pointer (some ⟨p, 0, none⟩), .int .i64 place] w (Ret (.bool (stackM op place)) w) := by
  have hcs : op = 4 ∨ op = 5 ∨ op = 6 ∨ op = 7 ∨ op = 8 ∨ op = 9 ∨ op = 10 ∨ ((op == 4) = false ∧ (op == 5) = false ∧ (op == 6) = false ∧ (op == 7) = false ∧ (op == 8) = false ∧ (op == 9) = false ∧ (op == 10) = false) := by
    simp only [beq_eq_false_iff_ne]; omega
  rcases hcs with rfl | rfl | rfl | rfl | rfl | rfl | rfl | ⟨t4, t5, t6, t7, t8, t9, t10⟩
  iterate 2
    · rw [st_a _ place (by decide)]
      cases h0 : (place == 0) <;> cases h1 : (place == 1)
      all_goals
        go_enter Tryz.func75, Tryz.ntmps75
        go_wp2
        go_ret
        exact ⟨rfl, rfl⟩
  iterate 2
    · rw [st_b _ place (by decide)]
      cases h1 : (place == 1)
      all_goals
        go_enter Tryz.func75, Tryz.ntmps75
        go_wp2
        go_ret
        exact ⟨rfl, rfl⟩
  iterate 3
    · rw [st_c _ place (by decide)]
      cases h1 : (place == 0)
      all_goals
        go_enter Tryz.func75, Tryz.ntmps75
        go_wp2
        go_ret
        exact ⟨rfl, rfl⟩
  · rw [st_d op place (by simp only [beq_eq_false_iff_ne] at *; omega)]
    go_enter Tryz.func75, Tryz.ntmps75
    go_wp2
    go_ret
    exact ⟨rfl, rfl⟩
def SgP (p : Nat) (m : Mk) (v : Int) (w : World) (e : Ending) (w' : World) : Prop := e = .returned (.int .i64 v) ∧ MS w' p m ∧ KP p w w'
set_option maxRecDepth 100000 in
set_option maxHeartbeats 2000000 in
theorem signed_any {w : World} {p : Nat} {m : Mk} (h : MS w p m) (mi : Bool) (v : Int) (h0 : 0 ≤ v) (h1 : v < 18446744073709551616) :
    Calls Tryz.prog 76 #[.pointer (some ⟨p, 0, none⟩), .bool mi, .int .u64 v] w (SgP p (signedM m mi v) (signS mi v).1 w) := by
  have HS := Lib.hid (Signed_any mi v w h0 h1)
  obtain ⟨a, b, hab⟩ : ∃ a b, signS mi v = (a, b) := ⟨_, _, rfl⟩
  rw [hab] at HS
  have f20 : World.frozen? w ⟨p, 20, none⟩ = false := RB.frozen h
  have g20 : World.cell? w ⟨p, 20, none⟩ = some (.bool m.great) := RB.cell h
  have H := Lib.hid h
  cases hb : (b != 0)
  · have HE : Hid (signedM m mi v = m ∧ (signS mi v).1 = a) := Lib.hid ⟨by unfold signedM; rw [hab, if_neg (by simpa using hb)], by rw [hab]⟩
    have hb2 : (b == 0) = true := by simpa using hb
    clear h h0 h1 hab
    go_enter Tryz.func76, Tryz.ntmps76
    go_wp2_with (go_at_call 90; ((with_reducible refine (HS.out).mono ?_); rintro e w' ⟨rfl, rfl⟩))
    go_ret
    exact ⟨by rw [HE.out.2]; rfl, by rw [HE.out.1]; exact H.out, KP.refl _ _⟩
  · have HE : Hid (signedM m mi v = { m with great := true } ∧ (signS mi v).1 = a) := Lib.hid ⟨by unfold signedM; rw [hab, if_pos (by simpa using hb)], by rw [hab]⟩
    have hb2 : (b == 0) = false := by simpa using hb
    have HN : Hid (MS (w.setCell ⟨p, 20, none⟩ (.bool true)) p { m with great := true }) := Lib.hid (RB.set h (j := 20) (.bool true))
    clear h h0 h1 hab
    go_enter Tryz.func76, Tryz.ntmps76
    go_wp2_with (go_at_call 90; ((with_reducible refine (HS.out).mono ?_); rintro e w' ⟨rfl, rfl⟩))
    go_ret
    exact ⟨by rw [HE.out.2]; rfl, by rw [HE.out.1]; exact HN.out, KP.step _ _ _ _⟩
def set5 (w : World) (p : Nat) (n : Nd) : World := ((((w.setCell ⟨p, 13, none⟩ (.int .i64 n.kind)).setCell ⟨p, 14, none⟩ (.string ⟨n.sym.toArray⟩)).setCell ⟨p, 15, none⟩ (.int .i64 n.add)).setCell ⟨p, 16, none⟩ (.bool n.minus)).setCell ⟨p, 17, none⟩ (.int .u64 n.v)
theorem MO.set5 {w : World} {p X : Nat} {m : Mk} {o : Po} (h : MO w p X m o) (n : Nd) : MO (set5 w p n) p X { m with nd := n } o :=
  (((((h.set (m' := { m with nd := { m.nd with kind := n.kind } }) 13 _ rfl).set (m' := { m with nd := { m.nd with kind := n.kind, sym := n.sym } }) 14 _ rfl).set (m' := { m with nd := { m.nd with kind := n.kind, sym := n.sym, add := n.add } }) 15 _ rfl).set (m' := { m with nd := { m.nd with kind := n.kind, sym := n.sym, add := n.add, minus := n.minus } }) 16 _ rfl).set (m' := { m with nd := n }) 17 _ rfl)
theorem KP.set5 {w u : World} {p : Nat} (h : KP p w u) (n : Nd) : KP p w (set5 u p n) :=
  KP.trans' (KP.trans' (KP.trans' (KP.trans' (KP.trans' h (KP.step _ _ _ _)) (KP.step _ _ _ _)) (KP.step _ _ _ _)) (KP.step _ _ _ _)) (KP.step _ _ _ _)
/-- All that a walk reads of the maker's block. -/
structure MC (w : World) (p : Nat) (m : Mk) : Prop where
  c0 : w.cell? ⟨p, 0, none⟩ = some (.string ⟨m.f.kinds.toArray⟩)
  c1 : w.cell? ⟨p, 1, none⟩ = some (.int .i64 m.f.op)
  c2 : w.cell? ⟨p, 2, none⟩ = some (.int .i64 m.f.need)
  k : ∀ j, j < 21 → ∃ v, w.cell? ⟨p, j, none⟩ = some v
  f : ∀ j, w.frozen? ⟨p, j, none⟩ = false
theorem MS.mc {w : World} {p : Nat} {m : Mk} (h : MS w p m) : MC w p m :=
  ⟨RB.cell h, RB.cell h, RB.cell h, fun j hj => ⟨(mkA m)[j]'(by simpa using hj), by
    have : w.cell? ⟨p, j, none⟩ = (mkA m)[j]? := RB.cell h
    rw [this]; exact Array.getElem?_eq_getElem _⟩, fun j => RB.frozen h⟩
set_option maxRecDepth 100000 in
set_option maxHeartbeats 2000000 in
theorem lack_any {w : World} {p : Nat} {m : Mk} (h : MS w p m) (o : Po) :
    Calls Tryz.prog 45 #[.pointer (some ⟨p, 0, none⟩), .agg (poA o)] w (MkP p (lackM m o) w) := by
  have H0 := MO.mk0 h o
  have HK : KP p w (w.alloc (.cells (poA o) 38)) := KP.lies (KP.refl _ _) _
  obtain ⟨W, hW⟩ : ∃ W, W = w.alloc (.cells (poA o) 38) := ⟨_, rfl⟩
  obtain ⟨X, hX⟩ : ∃ X, X = w.heap.size := ⟨_, rfl⟩
  rw [← hW, ← hX] at H0
  rw [← hW] at HK
  have HW := Lib.hid hW.symm
  have HX := Lib.hid hX.symm
  obtain ⟨c0, c1, c2, c3, c4, c5, c6, cf, cl⟩ := RB.seven H0.o
  have q := H0.m.mc
  have g2 := q.c2
  have f := q.f
  obtain ⟨v13, g13⟩ := q.k 13 (by decide)
  obtain ⟨v14, g14⟩ := q.k 14 (by decide)
  obtain ⟨v15, g15⟩ := q.k 15 (by decide)
  obtain ⟨v16, g16⟩ := q.k 16 (by decide)
  obtain ⟨v17, g17⟩ := q.k 17 (by decide)
  have HO := Lib.hid (MO.set5 (H0.next (below_drewN (Below.refl _ _) 1)) ⟨m.f.need, o.sym, o.add, false, 0⟩)
  have HY := Lib.hid (KP.set5 (KP.drewN HK 1) ⟨m.f.need, o.sym, o.add, false, 0⟩)
  clear H0 HK h q hW hX
  go_enter Tryz.func45, Tryz.ntmps45
  go_wp2_with fail
  rw [HW.out, HX.out]
  go_still_tail 13, (by kernel_rfl)
  change wpList _ _ _ _ _ W.drew
  have g13' : W.drew.cell? ⟨p, 13, none⟩ = some v13 := g13
  have g14' : W.drew.cell? ⟨p, 14, none⟩ = some v14 := g14
  have g15' : W.drew.cell? ⟨p, 15, none⟩ = some v15 := g15
  have g16' : W.drew.cell? ⟨p, 16, none⟩ = some v16 := g16
  have g17' : W.drew.cell? ⟨p, 17, none⟩ = some v17 := g17
  have f' : ∀ j, W.drew.frozen? ⟨p, j, none⟩ = false := f
  go_wp2
  exact ⟨rfl, _, results_none rfl _ _ _, rfl, HO.out.m, HY.out⟩
end Go.Proofs.YthejefldnpeciaaGreatDoor
