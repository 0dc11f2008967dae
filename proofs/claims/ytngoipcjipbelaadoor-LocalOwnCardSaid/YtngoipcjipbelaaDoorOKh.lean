/- operand: low. -/
import Derived.Test.YtngoipcjipbelaaDoorOJ
namespace Go.Proofs.YtngoipcjipbelaaDoor
set_option linter.unusedVariables false
set_option linter.unusedSimpArgs false
open Go.ChangeShapes Go.WideShapes Go.Deep Go.RowKit

abbrev ozC : Array Value := #[.int .i64 0, .int .i64 0, .bool false, .bool false, .int .u64 0, .string ⟨#[]⟩, .int .i64 0]
abbrev poA (o : Po) : Array Value := #[.int .i64 o.kind, .int .i64 o.reg, .bool o.stack, .bool o.minus, .int .u64 o.v, .string ⟨o.sym.toArray⟩, .int .i64 o.add]
/-- A reader, a result's block, and what was there before. -/
structure RX (w u : World) (p X : Nat) (l : List Ti) (g : Bool) : Prop where
  r : RR u p l g
  k : KP p w u
  b : RB u X ozC 86
  n : X ≠ p
  s : w.heap.size ≤ X
  q : p < w.heap.size
theorem RX.mk0 {w : World} {p : Nat} {l : List Ti} {g : Bool} (h : RR w p l g) : RX w (w.alloc (.cells ozC 86)) p w.heap.size l g :=
  have q := start h ozC 86
  ⟨q.1, q.2.1, q.2.2.1, q.2.2.2, Nat.le_refl _, h.lt⟩
theorem RX.call {w u u' : World} {p X : Nat} {l l' : List Ti} {g g' : Bool} (h : RX w u p X l g) (hR : RR u' p l' g') (hK : KP p u u') : RX w u' p X l' g' :=
  ⟨hR, KP.trans' h.k hK, h.b.kept hK h.n, h.n, h.s, h.q⟩
theorem RX.next {w u u' : World} {p X : Nat} {l : List Ti} {g : Bool} (h : RX w u p X l g) (hb : Below u.heap.size u u') : RX w u' p X l g :=
  h.call (h.r.next hb) (KP.of_below hb)
theorem RX.lay {w u : World} {p X : Nat} {l : List Ti} {g : Bool} (h : RX w u p X l g) (o : Obj) : RX w (u.alloc o) p X l g := h.next ((Below.refl _ u).alloc (Nat.le_refl _) o)
theorem RX.drewN {w u : World} {p X : Nat} {l : List Ti} {g : Bool} (h : RX w u p X l g) (n : Nat) : RX w (u.drewN n) p X l g := h.next (below_drewN (Below.refl _ _) n)
theorem RX.step {w u : World} {p X : Nat} {t : Ti} {l : List Ti} {g : Bool} (h : RX w u p X (t :: l) g) :
    ∃ k m : Nat, u.cell? ⟨p, 1, none⟩ = some (.int .i64 (k : Int)) ∧ u.frozen? ⟨p, 1, none⟩ = false ∧ IntKind.i64.wrap ((k : Int) + 1) = (m : Int) ∧ RX w (u.setCell ⟨p, 1, none⟩ (.int .i64 (m : Int))) p X l g := by
  obtain ⟨k, m, k1, k2, k3, h'⟩ := h.r.step
  exact ⟨k, m, k1, k2, k3, h.call h' (KP.step _ _ _ _)⟩
/-- The seven cells of a result, laid. -/
abbrev set7 (u : World) (X : Nat) (o : Po) : World :=
  ((((((u.setCell ⟨X, 0, none⟩ (.int .i64 o.kind)).setCell ⟨X, 1, none⟩ (.int .i64 o.reg)).setCell ⟨X, 2, none⟩ (.bool o.stack)).setCell ⟨X, 3, none⟩ (.bool o.minus)).setCell ⟨X, 4, none⟩ (.int .u64 o.v)).setCell ⟨X, 5, none⟩ (.string ⟨o.sym.toArray⟩)).setCell ⟨X, 6, none⟩ (.int .i64 o.add)
theorem set7_heap {u : World} {X : Nat} (h : RB u X ozC 86) (o : Po) : RB (set7 u X o) X (poA o) 86 := by
  have h0 : RB (u.setCell ⟨X, 0, none⟩ (.int .i64 o.kind)) X #[.int .i64 o.kind, .int .i64 0, .bool false, .bool false, .int .u64 0, .string ⟨#[]⟩, .int .i64 0] 86 := h.set (j := 0) _
  have h1 : RB ((u.setCell ⟨X, 0, none⟩ (.int .i64 o.kind)).setCell ⟨X, 1, none⟩ (.int .i64 o.reg)) X #[.int .i64 o.kind, .int .i64 o.reg, .bool false, .bool false, .int .u64 0, .string ⟨#[]⟩, .int .i64 0] 86 := h0.set (j := 1) _
  have h2 : RB (((u.setCell ⟨X, 0, none⟩ (.int .i64 o.kind)).setCell ⟨X, 1, none⟩ (.int .i64 o.reg)).setCell ⟨X, 2, none⟩ (.bool o.stack)) X #[.int .i64 o.kind, .int .i64 o.reg, .bool o.stack, .bool false, .int .u64 0, .string ⟨#[]⟩, .int .i64 0] 86 := h1.set (j := 2) _
  have h3 : RB ((((u.setCell ⟨X, 0, none⟩ (.int .i64 o.kind)).setCell ⟨X, 1, none⟩ (.int .i64 o.reg)).setCell ⟨X, 2, none⟩ (.bool o.stack)).setCell ⟨X, 3, none⟩ (.bool o.minus)) X #[.int .i64 o.kind, .int .i64 o.reg, .bool o.stack, .bool o.minus, .int .u64 0, .string ⟨#[]⟩, .int .i64 0] 86 := h2.set (j := 3) _
  have h4 : RB (((((u.setCell ⟨X, 0, none⟩ (.int .i64 o.kind)).setCell ⟨X, 1, none⟩ (.int .i64 o.reg)).setCell ⟨X, 2, none⟩ (.bool o.stack)).setCell ⟨X, 3, none⟩ (.bool o.minus)).setCell ⟨X, 4, none⟩ (.int .u64 o.v)) X #[.int .i64 o.kind, .int .i64 o.reg, .bool o.stack, .bool o.minus, .int .u64 o.v, .string ⟨#[]⟩, .int .i64 0] 86 := h3.set (j := 4) _
  have h5 : RB ((((((u.setCell ⟨X, 0, none⟩ (.int .i64 o.kind)).setCell ⟨X, 1, none⟩ (.int .i64 o.reg)).setCell ⟨X, 2, none⟩ (.bool o.stack)).setCell ⟨X, 3, none⟩ (.bool o.minus)).setCell ⟨X, 4, none⟩ (.int .u64 o.v)).setCell ⟨X, 5, none⟩ (.string ⟨o.sym.toArray⟩)) X #[.int .i64 o.kind, .int .i64 o.reg, .bool o.stack, .bool o.minus, .int .u64 o.v, .string ⟨o.sym.toArray⟩, .int .i64 0] 86 := h4.set (j := 5) _
  have h6 : RB (((((((u.setCell ⟨X, 0, none⟩ (.int .i64 o.kind)).setCell ⟨X, 1, none⟩ (.int .i64 o.reg)).setCell ⟨X, 2, none⟩ (.bool o.stack)).setCell ⟨X, 3, none⟩ (.bool o.minus)).setCell ⟨X, 4, none⟩ (.int .u64 o.v)).setCell ⟨X, 5, none⟩ (.string ⟨o.sym.toArray⟩)).setCell ⟨X, 6, none⟩ (.int .i64 o.add)) X #[.int .i64 o.kind, .int .i64 o.reg, .bool o.stack, .bool o.minus, .int .u64 o.v, .string ⟨o.sym.toArray⟩, .int .i64 o.add] 86 := h5.set (j := 6) _
  exact h6
theorem RX.done {w u : World} {p X : Nat} {l : List Ti} {g : Bool} (h : RX w u p X l g) (o : Po) :
    RR (set7 u X o) p l g ∧ KP p w (set7 u X o) ∧ RB (set7 u X o) X (poA o) 86 := by
  have hs : Below X u (set7 u X o) :=
    (((((((Below.refl X u).setCell (p := ⟨X, 0, none⟩) (Nat.le_refl _) _).setCell (p := ⟨X, 1, none⟩) (Nat.le_refl _) _).setCell (p := ⟨X, 2, none⟩) (Nat.le_refl _) _).setCell (p := ⟨X, 3, none⟩) (Nat.le_refl _) _).setCell (p := ⟨X, 4, none⟩) (Nat.le_refl _) _).setCell (p := ⟨X, 5, none⟩) (Nat.le_refl _) _).setCell (p := ⟨X, 6, none⟩) (Nat.le_refl _) _
  have hp : p < X := by
    have := h.q
    have h2 := h.s
    omega
  exact ⟨h.r.below hs hp, KP.below h.k hs h.s, set7_heap h.b o⟩
theorem RX.facts {w u : World} {p X : Nat} {l : List Ti} {g : Bool} (h : RX w u p X l g) :
    u.cell? ⟨X, 0, none⟩ = some (.int .i64 0) ∧ u.cell? ⟨X, 1, none⟩ = some (.int .i64 0) ∧ u.cell? ⟨X, 2, none⟩ = some (.bool false) ∧ u.cell? ⟨X, 3, none⟩ = some (.bool false) ∧ u.cell? ⟨X, 4, none⟩ = some (.int .u64 0) ∧
    u.cell? ⟨X, 5, none⟩ = some (.string ⟨#[]⟩) ∧ u.cell? ⟨X, 6, none⟩ = some (.int .i64 0) ∧ (∀ j, u.frozen? ⟨X, j, none⟩ = false) ∧ X < u.heap.size :=
  ⟨h.b.cell, h.b.cell, h.b.cell, h.b.cell, h.b.cell, h.b.cell, h.b.cell, fun j => h.b.frozen, lt_of_block h.b⟩
/-- An operand's block, laid. -/
theorem RX.turn {w u : World} {p X : Nat} {l : List Ti} {g : Bool} (h : RX w u p X l g) (o : Po) :
    RX w (u.alloc (.cells (poA o) 86)) p X l g ∧ RB (u.alloc (.cells (poA o) 86)) u.heap.size (poA o) 86 :=
  ⟨h.lay _, (MapKept.heap_alloc u _).1⟩
theorem RB.seven {u : World} {Z : Nat} {o : Po} (h : RB u Z (poA o) 86) :
    u.cell? ⟨Z, 0, none⟩ = some (.int .i64 o.kind) ∧ u.cell? ⟨Z, 1, none⟩ = some (.int .i64 o.reg) ∧ u.cell? ⟨Z, 2, none⟩ = some (.bool o.stack) ∧ u.cell? ⟨Z, 3, none⟩ = some (.bool o.minus) ∧ u.cell? ⟨Z, 4, none⟩ = some (.int .u64 o.v) ∧
    u.cell? ⟨Z, 5, none⟩ = some (.string ⟨o.sym.toArray⟩) ∧ u.cell? ⟨Z, 6, none⟩ = some (.int .i64 o.add) ∧ (∀ j, u.frozen? ⟨Z, j, none⟩ = false) ∧ Z < u.heap.size :=
  ⟨h.cell, h.cell, h.cell, h.cell, h.cell, h.cell, h.cell, fun j => h.frozen, lt_of_block h⟩
theorem zeroOpnd (w : World) : (zeroValue 86).run Tryd.prog w = .ok (.agg ozC) w := by kernel_rfl
end Go.Proofs.YtngoipcjipbelaaDoor
