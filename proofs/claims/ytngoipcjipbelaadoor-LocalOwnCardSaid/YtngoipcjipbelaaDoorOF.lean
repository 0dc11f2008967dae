/- operand: what is left to read; take, want. -/
import Derived.Test.YtngoipcjipbelaaDoorOE
namespace Go.Proofs.YtngoipcjipbelaaDoor
set_option linter.unusedVariables false
set_option linter.unusedSimpArgs false
open Go.ChangeShapes Go.WideShapes Go.Deep Go.RowKit

/-- The tables lie below block p, and below the two results before it. -/
def TabB (w : World) (p : Nat) : Prop := ∃ w0 : World, TabO w0 ∧ w0.heap.size ≤ p - 2 ∧ Below w0.heap.size w0 w
theorem TabB.tab {w : World} {p : Nat} (h : TabB w p) : TabO w := by obtain ⟨w0, h1, -, h2⟩ := h; exact h1.next h2
theorem TabB.kp {w w' : World} {p : Nat} (h : TabB w p) (hk : KP p w w') : TabB w' p := by obtain ⟨w0, h1, h2, h3⟩ := h; exact ⟨w0, h1, h2, KP.to_below h3 hk (by omega)⟩
theorem TabB.below {w w' : World} {p B : Nat} (h : TabB w p) (hb : Below B w w') (hp : p < B) : TabB w' p := by
  obtain ⟨w0, h1, h2, h3⟩ := h; exact ⟨w0, h1, h2, h3.trans (hb.mono (by omega))⟩
/-- The reader at block p: what is left to read, and whether a number was too great. -/
def RR (w : World) (p : Nat) (l : List Ti) (g : Bool) : Prop := ∃ ts k, ts.length ≤ 1000000 ∧ GoodTs ts ∧ k ≤ ts.length ∧ ts.drop k = l ∧ OR w p ts k g ∧ TabB w p
theorem RR.lt {w : World} {p : Nat} {l : List Ti} {g : Bool} (h : RR w p l g) : p < w.heap.size := by obtain ⟨ts, k, -, -, -, -, h, -⟩ := h; exact h.lt
theorem RR.tab {w : World} {p : Nat} {l : List Ti} {g : Bool} (h : RR w p l g) : TabO w := by obtain ⟨ts, k, -, -, -, -, -, h⟩ := h; exact h.tab
theorem RR.below {w w' : World} {p B : Nat} {l : List Ti} {g : Bool} (h : RR w p l g) (hb : Below B w w') (hp : p < B) : RR w' p l g := by
  obtain ⟨ts, k, h1, h2, h3, h4, h, hT⟩ := h; exact ⟨ts, k, h1, h2, h3, h4, h.below hb hp, hT.below hb hp⟩
theorem RR.next {w w' : World} {p : Nat} {l : List Ti} {g : Bool} (h : RR w p l g) (hb : Below w.heap.size w w') : RR w' p l g := h.below hb h.lt
theorem RR.lies {w : World} {p : Nat} {l : List Ti} {g : Bool} (h : RR w p l g) (o : Obj) : RR (w.alloc o) p l g := h.below ((Below.refl _ _).alloc (Nat.le_refl _) o) h.lt
theorem RR.drewN {w : World} {p : Nat} {l : List Ti} {g : Bool} (h : RR w p l g) (n : Nat) : RR (w.drewN n) p l g := h.next (below_drewN (Below.refl _ _) n)
theorem RR.good {w : World} {p : Nat} {l : List Ti} {g : Bool} (h : RR w p l g) : GoodTs l := by
  obtain ⟨ts, k, -, h2, -, rfl, -⟩ := h
  exact fun t ht => h2 t (List.mem_of_mem_drop ht)
theorem good_tiZ : GoodTi tiZ := ⟨by decide, by decide, by decide⟩
theorem good_next {l : List Ti} (h : GoodTs l) : GoodTi (nextT l) := by
  cases l with
  | nil => exact good_tiZ
  | cons t r => exact h t (by simp)
theorem RR.step {w : World} {p : Nat} {t : Ti} {r : List Ti} {g : Bool} (h : RR w p (t :: r) g) :
    ∃ k m : Nat, w.cell? ⟨p, 1, none⟩ = some (.int .i64 (k : Int)) ∧ w.frozen? ⟨p, 1, none⟩ = false ∧ IntKind.i64.wrap ((k : Int) + 1) = (m : Int) ∧ RR (w.setCell ⟨p, 1, none⟩ (.int .i64 (m : Int))) p r g := by
  obtain ⟨ts, k, h1, h2, h3, h4, h, hT⟩ := h
  obtain ⟨a, c, -, c1, -, f1, -⟩ := h.cells
  have hl := congrArg List.length h4
  simp only [List.length_drop, List.length_cons] at hl
  refine ⟨k, k + 1, c1, f1, by rw [IntKind.wrap_i64]; omega, ts, k + 1, h1, h2, by omega, ?_, h.step (k + 1), hT.kp (KP.step _ _ _ _)⟩
  rw [← List.drop_drop, h4]; rfl
theorem RR.great {w : World} {p : Nat} {l : List Ti} {g : Bool} (h : RR w p l g) : w.frozen? ⟨p, 2, none⟩ = false ∧ w.cell? ⟨p, 2, none⟩ = some (.bool g) ∧ RR (w.setCell ⟨p, 2, none⟩ (.bool true)) p l true := by
  obtain ⟨ts, k, h1, h2, h3, h4, h, hT⟩ := h
  obtain ⟨a, c, -, -, c2, -, f2⟩ := h.cells
  exact ⟨f2, c2, ts, k, h1, h2, h3, h4, h.great true, hT.kp (KP.step _ _ _ _)⟩
theorem RR.side {w : World} {p X j : Nat} {l : List Ti} {g : Bool} (h : RR w p l g) (h1 : p - 2 ≤ X) (h2 : X ≠ p) (v : Value) : RR (w.setCell ⟨X, j, none⟩ v) p l g := by
  obtain ⟨ts, k, q1, q2, q3, q4, h, w0, t1, t2, t3⟩ := h
  exact ⟨ts, k, q1, q2, q3, q4, h.side h1 h2 v, w0, t1, t2, t3.setCell (p := ⟨X, j, none⟩) (by show w0.heap.size ≤ X; omega) v⟩
/-- What a call that reads leaves. -/
def Did (v : Value) (p : Nat) (l : List Ti) (g : Bool) (w : World) (e : Ending) (w' : World) : Prop := e = .returned v ∧ RR w' p l g ∧ KP p w w'
/-- What a call throws that finds no operand. -/
def Thr (p : Nat) (w : World) (e : Ending) (w' : World) : Prop := e = .panicked [{ v := .iface 123 (.agg #[]), recovered := false }] ∧ KP p w w'
theorem ended_r {w : World} {p : Nat} {l : List Ti} {g : Bool} (h : RR w p l g) :
    Calls Tryd.prog 51 #[.pointer (some ⟨p, 0, none⟩)] w (Did (.bool l.isEmpty) p l g w) := by
  obtain ⟨ts, k, h1, h2, h3, h4, h, hT⟩ := h
  refine (ended_any h).mono ?_
  rintro e w' ⟨rfl, hR, hK⟩
  refine ⟨?_, ⟨ts, k, h1, h2, h3, h4, hR, hT.kp hK⟩, hK⟩
  rw [← h4]
  by_cases c : ts.length ≤ k
  · rw [List.drop_eq_nil_of_le c]; simp [c]
  · rw [drop_cons (by omega)]; simp [c]
theorem next_r {w : World} {p : Nat} {l : List Ti} {g : Bool} (h : RR w p l g) :
    Calls Tryd.prog 74 #[.pointer (some ⟨p, 0, none⟩)] w (Did (tiV (nextT l)) p l g w) := by
  obtain ⟨ts, k, h1, h2, h3, h4, h, hT⟩ := h
  refine (next_any h h1).mono ?_
  rintro e w' ⟨rfl, hR, hK⟩
  exact ⟨by rw [h4], ⟨ts, k, h1, h2, h3, h4, hR, hT.kp hK⟩, hK⟩
/-- A token that is laid in a block of its own. -/
abbrev layT (u : World) (t : Ti) : World := u.alloc (.cells #[.int .i64 t.kind, .string ⟨t.text.toArray⟩, .int .u64 t.v] 31)
def TC (w : World) (X : Nat) (t : Ti) : Prop := w.heap[X]? = some (.cells (tiC t).toArray 31 (0, 0))
theorem TC.cells {w : World} {X : Nat} {t : Ti} (h : TC w X t) : w.cell? ⟨X, 0, none⟩ = some (.int .i64 t.kind) ∧ w.cell? ⟨X, 1, none⟩ = some (.string ⟨t.text.toArray⟩) ∧ w.cell? ⟨X, 2, none⟩ = some (.int .u64 t.v) :=
  ⟨by rw [World.cell?, h]; rfl, by rw [World.cell?, h]; rfl, by rw [World.cell?, h]; rfl⟩
theorem TC.kept {w w' : World} {X p : Nat} {t : Ti} (h : TC w X t) (hk : KP p w w') (hne : X ≠ p) : TC w' X t := (hk.block X (lt_of_block h) (fun e => hne (by cases e; rfl))).trans h
theorem lay_t {w u : World} {p : Nat} {l : List Ti} {g : Bool} (hR : RR u p l g) (hK : KP p w u) (t : Ti) :
    RR (layT u t) p l g ∧ KP p w (layT u t) ∧ TC (layT u t) u.heap.size t ∧ u.heap.size ≠ p := by
  have hb : Below u.heap.size u (layT u t) := (Below.refl _ u).alloc (Nat.le_refl _) _
  exact ⟨hR.below hb hR.lt, KP.below hK hb hK.size, (MapKept.heap_alloc u _).1, by have := hR.lt; omega⟩
set_option maxRecDepth 100000 in
set_option maxHeartbeats 2000000 in
theorem take_no {w : World} {p : Nat} {l : List Ti} {g : Bool} (h : RR w p l g) (s : List UInt8) (hs : isSg s (nextT l) = false) :
    Calls Tryd.prog 76 #[.pointer (some ⟨p, 0, none⟩), .string ⟨s.toArray⟩] w (Did (.bool false) p l g w) := by
  have HN := Lib.hid (next_r h)
  have HC : Hid (((nextT l).kind != 4) = true ∨ ((nextT l).kind != 4) = false ∧ (!((nextT l).text == s)) = true) := Lib.hid (by
    unfold isSg at hs
    by_cases c : (nextT l).kind = 4
    · refine .inr ⟨by rw [c]; rfl, ?_⟩
      rw [c] at hs
      simp only [beq_self_eq_true, Bool.true_and] at hs
      rw [hs]; rfl
    · exact .inl (by rw [bne_iff_ne]; exact c))
  obtain ⟨t, ht⟩ : ∃ t, nextT l = t := ⟨_, rfl⟩
  rw [ht] at HN HC
  clear h hs ht
  go_enter Tryd.func76, Tryd.ntmps76
  go_wp2_with fail
  refine HN.out.mono ?_
  rintro e u ⟨rfl, hR, hK⟩
  have HL := Lib.hid (lay_t hR hK t)
  clear hR hK
  obtain ⟨c0, c1, c2⟩ := HL.out.2.2.1.cells
  rcases HC.out with hk | ⟨hk, hx⟩
  all_goals go_wp2
  all_goals go_ret
  all_goals exact ⟨rfl, HL.out.1, HL.out.2.1⟩
set_option maxRecDepth 100000 in
set_option maxHeartbeats 2000000 in
theorem take_yes {w : World} {p : Nat} {t : Ti} {r : List Ti} {g : Bool} (h : RR w p (t :: r) g) (s : List UInt8) (hs : isSg s t = true) :
    Calls Tryd.prog 76 #[.pointer (some ⟨p, 0, none⟩), .string ⟨s.toArray⟩] w (Did (.bool true) p r g w) := by
  have HN : Hid (Calls Tryd.prog 74 #[.pointer (some ⟨p, 0, none⟩)] w (Did (tiV t) p (t :: r) g w)) := Lib.hid (next_r h)
  unfold isSg at hs
  simp only [Bool.and_eq_true, beq_iff_eq] at hs
  have hk : (t.kind != 4) = false := by rw [hs.1]; rfl
  have hx : (!(t.text == s)) = false := by rw [hs.2]; simp
  clear h hs
  go_enter Tryd.func76, Tryd.ntmps76
  go_wp2_with fail
  refine HN.out.mono ?_
  rintro e u ⟨rfl, hR, hK⟩
  have HL := Lib.hid (lay_t hR hK t)
  clear hR hK
  obtain ⟨c0, c1, c2⟩ := HL.out.2.2.1.cells
  obtain ⟨k, m, k1, k2, k3, HS⟩ := HL.out.1.step
  have HS := Lib.hid HS
  go_wp2
  go_ret
  exact ⟨rfl, HS.out, KP.trans' HL.out.2.1 (KP.step _ _ _ _)⟩
theorem want_yes {w : World} {p : Nat} {t : Ti} {r : List Ti} {g : Bool} (h : RR w p (t :: r) g) (s : List UInt8) (hs : isSg s t = true) :
    Calls Tryd.prog 53 #[.pointer (some ⟨p, 0, none⟩), .string ⟨s.toArray⟩] w (Did (.tuple #[]) p r g w) := by
  have HN := Lib.hid (take_yes h s hs)
  clear h hs
  go_enter Tryd.func53, Tryd.ntmps53
  go_wp2_with fail
  refine HN.out.mono ?_
  rintro e u ⟨rfl, hR, hK⟩
  have HR := Lib.hid hR
  have HK := Lib.hid hK
  clear hR hK
  go_wp2
  refine bodyPost_ret (results_none rfl _ _ _) rfl ?_
  exact ⟨rfl, HR.out, HK.out⟩
theorem want_no {w : World} {p : Nat} {l : List Ti} {g : Bool} (h : RR w p l g) (s : List UInt8) (hs : isSg s (nextT l) = false) :
    Calls Tryd.prog 53 #[.pointer (some ⟨p, 0, none⟩), .string ⟨s.toArray⟩] w (Thr p w) := by
  have HN := Lib.hid (take_no h s hs)
  clear h hs
  go_enter Tryd.func53, Tryd.ntmps53
  go_wp2_with fail
  refine HN.out.mono ?_
  rintro e u ⟨rfl, hR, hK⟩
  have HK := Lib.hid hK
  clear hR hK
  go_wp2
  exact ⟨rfl, rfl, HK.out⟩
end Go.Proofs.YtngoipcjipbelaaDoor
