/- operand: the reader. -/
import Derived.Test.YthejefldnpeciaaGreatDoorzO2
import Derived.Laws.Rows
import Derived.StillTailTactics
namespace Go.Proofs.YthejefldnpeciaaGreatDoor
set_option linter.unusedVariables false
set_option linter.unusedSimpArgs false
open Go.ChangeShapes Go.WideShapes Go.Deep Go.RowKit

theorem tiC_len (t : Ti) : (tiC t).length = 3 := rfl
abbrev tiV (t : Ti) : Value := .agg #[.int .i64 t.kind, .string ⟨t.text.toArray⟩, .int .u64 t.v]
/-- The reader at block p: its tokens, its place, and whether a number was too great. -/
def OR (w : World) (p : Nat) (ts : List Ti) (at' : Nat) (g : Bool) : Prop :=
  ∃ a c, w.heap[p]? = some (.cells #[.slice a ts.length c, .int .i64 (at' : Int), .bool g] 83 (0, 0)) ∧ SL tiC 3 w (p - 2) a ts.length ts
theorem OR.lt {w : World} {p at' : Nat} {ts : List Ti} {g : Bool} (h : OR w p ts at' g) : p < w.heap.size := by obtain ⟨a, c, h1, -⟩ := h; exact lt_of_block h1
theorem OR.below {w w' : World} {p at' B : Nat} {ts : List Ti} {g : Bool} (h : OR w p ts at' g) (hb : Below B w w') (hp : p < B) : OR w' p ts at' g := by
  obtain ⟨a, c, h1, h2⟩ := h
  exact ⟨a, c, (hb.block p hp).trans h1, h2.below (hb.mono (by omega))⟩
theorem OR.step {w : World} {p at' : Nat} {ts : List Ti} {g : Bool} (h : OR w p ts at' g) (x : Nat) : OR (w.setCell ⟨p, 1, none⟩ (.int .i64 (x : Int))) p ts x g := by
  obtain ⟨a, c, h1, h2⟩ := h
  refine ⟨a, c, ?_, h2.below (((Below.refl p w).setCell (p := ⟨p, 1, none⟩) (Nat.le_refl _) _).mono (by omega))⟩
  unfold World.setCell
  simp [h1, Array.getElem?_modify]
theorem OR.great {w : World} {p at' : Nat} {ts : List Ti} {g : Bool} (h : OR w p ts at' g) (x : Bool) : OR (w.setCell ⟨p, 2, none⟩ (.bool x)) p ts at' x := by
  obtain ⟨a, c, h1, h2⟩ := h
  refine ⟨a, c, ?_, h2.below (((Below.refl p w).setCell (p := ⟨p, 2, none⟩) (Nat.le_refl _) _).mono (by omega))⟩
  unfold World.setCell
  simp [h1, Array.getElem?_modify]
theorem OR.cells {w : World} {p at' : Nat} {ts : List Ti} {g : Bool} (h : OR w p ts at' g) : ∃ a c, w.cell? ⟨p, 0, none⟩ = some (.slice a ts.length c) ∧ w.cell? ⟨p, 1, none⟩ = some (.int .i64 (at' : Int)) ∧ w.cell? ⟨p, 2, none⟩ = some (.bool g) ∧
    w.frozen? ⟨p, 1, none⟩ = false ∧ w.frozen? ⟨p, 2, none⟩ = false := by
  obtain ⟨a, c, hp, -⟩ := h
  exact ⟨a, c, by rw [World.cell?, hp]; rfl, by rw [World.cell?, hp]; rfl, by rw [World.cell?, hp]; rfl, by rw [World.frozen?, hp]; rfl, by rw [World.frozen?, hp]; rfl⟩
theorem OR.drewN {w : World} {p at' : Nat} {ts : List Ti} {g : Bool} (h : OR w p ts at' g) (n : Nat) : OR (w.drewN n) p ts at' g := by
  obtain ⟨a, c, h1, h2⟩ := h
  exact ⟨a, c, h1, h2.below (below_drewN (Below.refl _ _) n)⟩
theorem OR.side {w : World} {p at' X j : Nat} {ts : List Ti} {g : Bool} (h : OR w p ts at' g) (h1 : p - 2 ≤ X) (h2 : X ≠ p) (v : Value) : OR (w.setCell ⟨X, j, none⟩ v) p ts at' g := by
  obtain ⟨a, c, h3, h4⟩ := h
  exact ⟨a, c, (Below.heap_setCell _ _ _ _ (fun e => h2 (by rw [e]))).trans h3, h4.below ((Below.refl _ w).setCell (p := ⟨X, j, none⟩) h1 _)⟩
/-- What a call that reads hands back. -/
def ReadP (v : Value) (p : Nat) (ts : List Ti) (at' : Nat) (g : Bool) (w : World) (e : Ending) (w' : World) : Prop := e = .returned v ∧ OR w' p ts at' g ∧ KP p w w'
set_option maxRecDepth 100000 in
set_option maxHeartbeats 1000000 in
theorem ended_any {w : World} {p at' : Nat} {ts : List Ti} {g : Bool} (h : OR w p ts at' g) :
    Calls Tryz.prog 31 #[.pointer (some ⟨p, 0, none⟩)] w (ReadP (.bool (decide (ts.length ≤ at'))) p ts at' g w) := by
  obtain ⟨a, c, c0, c1, -⟩ := h.cells
  obtain ⟨n, hn⟩ : ∃ n, n = ts.length := ⟨_, rfl⟩
  rw [← hn] at c0 ⊢
  have H := Lib.hid h
  clear h hn
  go_enter Tryz.func31, Tryz.ntmps31
  go_wp2
  go_quiet (fail)
  go_wp2
  go_ret
  exact ⟨by simp, H.out.drewN _, (KP.refl _ _).drewN _⟩
theorem next_none {ts : List Ti} {k : Nat} (h : ts.length ≤ k) : nextT (ts.drop k) = tiZ := by rw [List.drop_eq_nil_of_le h]; rfl
theorem next_some {ts : List Ti} {k : Nat} (h : k < ts.length) : nextT (ts.drop k) = ts[k] := by rw [drop_cons h]; rfl
theorem tb_end {w u : World} {X p at' : Nat} {ts : List Ti} {g : Bool} (ht : TB u X) (hR : OR u p ts at' g) (hK : KP p w u) (hX : X = w.heap.size) (hp : p < X) (x y z : Value) :
    OR (((u.setCell ⟨X, 0, none⟩ x).setCell ⟨X, 1, none⟩ y).setCell ⟨X, 2, none⟩ z) p ts at' g ∧ KP p w (((u.setCell ⟨X, 0, none⟩ x).setCell ⟨X, 1, none⟩ y).setCell ⟨X, 2, none⟩ z) ∧
    (((u.setCell ⟨X, 0, none⟩ x).setCell ⟨X, 1, none⟩ y).setCell ⟨X, 2, none⟩ z).heap[X]? = some (.cells #[x, y, z] 78 (0, 0)) := by
  have hb : Below X u (((u.setCell ⟨X, 0, none⟩ x).setCell ⟨X, 1, none⟩ y).setCell ⟨X, 2, none⟩ z) :=
    (((Below.refl X u).setCell (p := ⟨X, 0, none⟩) (Nat.le_refl _) x).setCell (p := ⟨X, 1, none⟩) (Nat.le_refl _) y).setCell (p := ⟨X, 2, none⟩) (Nat.le_refl _) z
  exact ⟨hR.below hb hp, KP.below hK hb (by omega), set3 ht⟩
theorem ti_cells {w : World} {b off : Nat} {k : Nat} {t : Ti} (hc : ∀ j, j < 3 → w.cell? ⟨b, off + k * 3 + j, none⟩ = (tiC t)[j]?) :
    w.cell? ⟨b, off + k * 3, none⟩ = some (.int .i64 t.kind) ∧ w.cell? ⟨b, off + k * 3 + 1, none⟩ = some (.string ⟨t.text.toArray⟩) ∧ w.cell? ⟨b, off + k * 3 + 2, none⟩ = some (.int .u64 t.v) :=
  ⟨hc 0 (by omega), hc 1 (by omega), hc 2 (by omega)⟩
set_option maxRecDepth 100000 in
set_option maxHeartbeats 2000000 in
theorem next_any {w : World} {p at' : Nat} {ts : List Ti} {g : Bool} (h : OR w p ts at' g) (h2 : ts.length ≤ 1000000) :
    Calls Tryz.prog 61 #[.pointer (some ⟨p, 0, none⟩)] w (ReadP (tiV (nextT (ts.drop at'))) p ts at' g w) := by
  obtain ⟨X, hX⟩ : ∃ X, X = w.heap.size := ⟨_, rfl⟩
  have hpX : p < X := by rw [hX]; exact h.lt
  have hb0 : Below w.heap.size w (w.alloc (.cells #[.int .i64 0, .string ⟨#[]⟩, .int .u64 0] 78)) := (Below.refl _ _).alloc (Nat.le_refl _) _
  have HR0 := Lib.hid (h.below hb0 h.lt)
  have HK0 := Lib.hid (KP.of_below (p := p) hb0)
  have HT0 : Hid (TB (w.alloc (.cells #[.int .i64 0, .string ⟨#[]⟩, .int .u64 0] 78)) X) := Lib.hid (by rw [hX]; exact (MapKept.heap_alloc w _).1)
  have HX := Lib.hid hX
  have HNE : Hid (X ≠ p) := Lib.hid (by omega)
  have HPX := Lib.hid hpX
  have HL := Lib.hid h2
  clear h h2 hb0 hpX
  by_cases he : ts.length ≤ at'
  · have HN := Lib.hid (next_none he)
    have HE : Hid (decide (ts.length ≤ at') = true) := Lib.hid (decide_eq_true he)
    clear he
    go_enter Tryz.func61, Tryz.ntmps61
    go_wp2_with fail
    rw [← hX]
    clear hX
    generalize w.alloc (.cells #[.int .i64 0, .string ⟨#[]⟩, .int .u64 0] 78) = W0 at HR0 HK0 HT0 ⊢
    refine (ended_any HR0.out).mono ?_
    rintro e u1 ⟨rfl, hR, hK⟩
    rw [HE.out]
    have HR1 := Lib.hid hR
    have HK1 := Lib.hid (KP.trans' HK0.out hK)
    have HT1 := Lib.hid (HT0.out.kept hK HNE.out)
    clear hR hK
    obtain ⟨x0, x1, x2, y0, y1, y2⟩ := HT1.out.cells
    have hXl : X < u1.heap.size := lt_of_block HT1.out
    have HEN := Lib.hid (tb_end HT1.out HR1.out HK1.out HX.out HPX.out (.int .i64 0) (.string ⟨#[]⟩) (.int .u64 0))
    go_wp2
    refine bodyPost_ret (results_cell_row (P := Tryz.prog) rfl _ _ X 78 _ (0, 0) _ rfl HEN.out.2.2 Tryz.underlying78 rfl (by kernel_rfl)) rfl ?_
    exact ⟨by rw [HN.out], HEN.out.1, HEN.out.2.1⟩
  · have hlt : at' < ts.length := by omega
    obtain ⟨t, htn, htc⟩ : ∃ t, nextT (ts.drop at') = t ∧ ts[at']? = some t := ⟨_, next_some hlt, List.getElem?_eq_getElem hlt⟩
    have HN := Lib.hid htn
    have HTC := Lib.hid htc
    have HE : Hid (decide (ts.length ≤ at') = false) := Lib.hid (decide_eq_false he)
    have HLT := Lib.hid hlt
    clear he hlt htn htc
    go_enter Tryz.func61, Tryz.ntmps61
    go_wp2_with fail
    rw [← hX]
    clear hX
    generalize w.alloc (.cells #[.int .i64 0, .string ⟨#[]⟩, .int .u64 0] 78) = W0 at HR0 HK0 HT0 ⊢
    refine (ended_any HR0.out).mono ?_
    rintro e u1 ⟨rfl, hR, hK⟩
    rw [HE.out]
    have HR1 := Lib.hid hR
    have HK1 := Lib.hid (KP.trans' HK0.out hK)
    have HT1 := Lib.hid (HT0.out.kept hK HNE.out)
    obtain ⟨a, c, hp0, hsl⟩ := hR
    obtain ⟨b, off, rfl, hB, hc⟩ := hsl.cells (hsl.ne HLT.out)
    obtain ⟨d0, d1, d2⟩ := ti_cells (fun j hj => hc at' HLT.out j hj)
    have ht : ts[at']'(HLT.out) = t := by
      have := HTC.out
      rw [List.getElem?_eq_getElem HLT.out] at this
      exact Option.some.inj this
    rw [ht] at d0 d1 d2
    have c0 : u1.cell? ⟨p, 0, none⟩ = some (.slice (some ⟨b, off, none⟩) ts.length c) := by rw [World.cell?, hp0]; rfl
    have c1 : u1.cell? ⟨p, 1, none⟩ = some (.int .i64 (at' : Int)) := by rw [World.cell?, hp0]; rfl
    obtain ⟨n, hn⟩ : ∃ n, n = ts.length := ⟨_, rfl⟩
    rw [← hn] at c0
    have hltz : (at' : Int) < (n : Int) := by have := HLT.out; omega
    have hat0 : (0 : Int) ≤ (at' : Int) := by omega
    have hbX : b ≠ X := by have := HPX.out; omega
    clear hK hp0 hsl hc ht hn
    obtain ⟨x0, x1, x2, y0, y1, y2⟩ := HT1.out.cells
    have hXl : X < u1.heap.size := lt_of_block HT1.out
    have HEN := Lib.hid (tb_end HT1.out HR1.out HK1.out HX.out HPX.out (.int .i64 t.kind) (.string ⟨t.text.toArray⟩) (.int .u64 t.v))
    go_wp2
    go_region
    all_goals go_wp2
    refine bodyPost_ret (results_cell_row (P := Tryz.prog) rfl _ _ X 78 _ (0, 0) _ rfl (by exact HEN.out.2.2) Tryz.underlying78 rfl (by kernel_rfl)) rfl ?_
    exact ⟨by rw [HN.out], HEN.out.1.drewN 1, HEN.out.2.1.drewN 1⟩
open Go.ChangeShapes Go.WideShapes Go.Deep Go.RowKit

/-- The tables lie below block p, and below the two results before it. -/
def TabB (w : World) (p : Nat) : Prop := ∃ w0 : World, TabO w0 ∧ w0.heap.size ≤ p - 2 ∧ Below w0.heap.size w0 w
theorem TabB.tab {w : World} {p : Nat} (h : TabB w p) : TabO w := by obtain ⟨w0, h1, -, h2⟩ := h; exact h1.next h2
theorem TabB.kp {w w' : World} {p : Nat} (h : TabB w p) (hk : KP p w w') : TabB w' p := by obtain ⟨w0, h1, h2, h3⟩ := h; exact ⟨w0, h1, h2, KP.to_below h3 hk (by omega)⟩
theorem TabB.below {w w' : World} {p B : Nat} (h : TabB w p) (hb : Below B w w') (hp : p < B) : TabB w' p := by
  obtain ⟨w0, h1, h2, h3⟩ := h; exact ⟨w0, h1, h2, h3.trans (hb.mono (by omega))⟩
/-- The reader at block p: what is left to read, and whether a number was too great. -/
def RR (w : World) (p : Nat) (l : List Ti) (g : Bool) : Prop := ∃ ts k, ts.length ≤ 1000000 ∧ GoodTs ts ∧ k ≤ ts.length ∧ ts.drop k = l ∧ OR w p ts k g ∧ TabB w p
theorem RR.lt {w : World} {p : Nat} {l : List Ti} {g : Bool} (h : RR w p l g) : p < w.heap.size := by obtain ⟨ts, k, -, -, -, -, h, -⟩ := h; exact h.lt
theorem RR.tab {w : World} {p : Nat} {l : List Ti} {g : Bool} (h : RR w p l g) : TabO w := by obtain ⟨ts, k, -, -, -, -, -, h⟩ := h; exact h.tab
theorem RR.below {w w' : World} {p B : Nat} {l : List Ti} {g : Bool} (h : RR w p l g) (hb : Below B w w') (hp : p < B) : RR w' p l g := by
  obtain ⟨ts, k, h1, h2, h3, h4, h, hT⟩ := h; exact ⟨ts, k, h1, h2, h3, h4, h.below hb hp, hT.below hb hp⟩
theorem RR.next {w w' : World} {p : Nat} {l : List Ti} {g : Bool} (h : RR w p l g) (hb : Below w.heap.size w w') : RR w' p l g := h.below hb h.lt
theorem RR.lies {w : World} {p : Nat} {l : List Ti} {g : Bool} (h : RR w p l g) (o : Obj) : RR (w.alloc o) p l g := h.below ((Below.refl _ _).alloc (Nat.le_refl _) o) h.lt
theorem RR.drewN {w : World} {p : Nat} {l : List Ti} {g : Bool} (h : RR w p l g) (n : Nat) : RR (w.drewN n) p l g := h.next (below_drewN (Below.refl _ _) n)
theorem RR.good {w : World} {p : Nat} {l : List Ti} {g : Bool} (h : RR w p l g) : GoodTs l := by
  obtain ⟨ts, k, -, h2, -, rfl, -⟩ := h
  exact fun t ht => h2 t (List.mem_of_mem_drop ht)
theorem good_tiZ : GoodTi tiZ := ⟨by decide, by decide, by decide⟩
theorem good_next {l : List Ti} (h : GoodTs l) : GoodTi (nextT l) := by
  cases l with
  | nil => exact good_tiZ
  | cons t r => exact h t (by simp)
theorem RR.step {w : World} {p : Nat} {t : Ti} {r : List Ti} {g : Bool} (h : RR w p (t :: r) g) :
    ∃ k m : Nat, w.cell? ⟨p, 1, none⟩ = some (.int .i64 (k : Int)) ∧ w.frozen? ⟨p, 1, none⟩ = false ∧ IntKind.i64.wrap ((k : Int) + 1) = (m : Int) ∧ RR (w.setCell ⟨p, 1, none⟩ (.int .i64 (m : Int))) p r g := by
  obtain ⟨ts, k, h1, h2, h3, h4, h, hT⟩ := h
  obtain ⟨a, c, -, c1, -, f1, -⟩ := h.cells
  have hl := congrArg List.length h4
  simp only [List.length_drop, List.length_cons] at hl
  refine ⟨k, k + 1, c1, f1, by rw [IntKind.wrap_i64]; omega, ts, k + 1, h1, h2, by omega, ?_, h.step (k + 1), hT.kp (KP.step _ _ _ _)⟩
  rw [← List.drop_drop, h4]; rfl
theorem RR.great {w : World} {p : Nat} {l : List Ti} {g : Bool} (h : RR w p l g) : w.frozen? ⟨p, 2, none⟩ = false ∧ w.cell? ⟨p, 2, none⟩ = some (.bool g) ∧ RR (w.setCell ⟨p, 2, none⟩ (.bool true)) p l true := by
  obtain ⟨ts, k, h1, h2, h3, h4, h, hT⟩ := h
  obtain ⟨a, c, -, -, c2, -, f2⟩ := h.cells
  exact ⟨f2, c2, ts, k, h1, h2, h3, h4, h.great true, hT.kp (KP.step _ _ _ _)⟩
theorem RR.side {w : World} {p X j : Nat} {l : List Ti} {g : Bool} (h : RR w p l g) (h1 : p - 2 ≤ X) (h2 : X ≠ p) (v : Value) : RR (w.setCell ⟨X, j, none⟩ v) p l g := by
  obtain ⟨ts, k, q1, q2, q3, q4, h, w0, t1, t2, t3⟩ := h
  exact ⟨ts, k, q1, q2, q3, q4, h.side h1 h2 v, w0, t1, t2, t3.setCell (p := ⟨X, j, none⟩) (by show w0.heap.size ≤ X; omega) v⟩
/-- What a call that reads leaves. -/
def Did (v : Value) (p : Nat) (l : List Ti) (g : Bool) (w : World) (e : Ending) (w' : World) : Prop := e = .returned v ∧ RR w' p l g ∧ KP p w w'
/-- What a call throws that finds no operand. -/
def Thr (p : Nat) (w : World) (e : Ending) (w' : World) : Prop := e = .panicked [{ v := .iface 110 (.agg #[]), recovered := false }] ∧ KP p w w'
theorem ended_r {w : World} {p : Nat} {l : List Ti} {g : Bool} (h : RR w p l g) :
    Calls Tryz.prog 31 #[.pointer (some ⟨p, 0, none⟩)] w (Did (.bool l.isEmpty) p l g w) := by
  obtain ⟨ts, k, h1, h2, h3, h4, h, hT⟩ := h
  refine (ended_any h).mono ?_
  rintro e w' ⟨rfl, hR, hK⟩
  refine ⟨?_, ⟨ts, k, h1, h2, h3, h4, hR, hT.kp hK⟩, hK⟩
  rw [← h4]
  by_cases c : ts.length ≤ k
  · rw [List.drop_eq_nil_of_le c]; simp [c]
  · rw [drop_cons (by omega)]; simp [c]
theorem next_r {w : World} {p : Nat} {l : List Ti} {g : Bool} (h : RR w p l g) :
    Calls Tryz.prog 61 #[.pointer (some ⟨p, 0, none⟩)] w (Did (tiV (nextT l)) p l g w) := by
  obtain ⟨ts, k, h1, h2, h3, h4, h, hT⟩ := h
  refine (next_any h h1).mono ?_
  rintro e w' ⟨rfl, hR, hK⟩
  exact ⟨by rw [h4], ⟨ts, k, h1, h2, h3, h4, hR, hT.kp hK⟩, hK⟩
/-- A token that is laid in a block of its own. -/
abbrev layT (u : World) (t : Ti) : World := u.alloc (.cells #[.int .i64 t.kind, .string ⟨t.text.toArray⟩, .int .u64 t.v] 78)
def TC (w : World) (X : Nat) (t : Ti) : Prop := w.heap[X]? = some (.cells (tiC t).toArray 78 (0, 0))
theorem TC.cells {w : World} {X : Nat} {t : Ti} (h : TC w X t) : w.cell? ⟨X, 0, none⟩ = some (.int .i64 t.kind) ∧ w.cell? ⟨X, 1, none⟩ = some (.string ⟨t.text.toArray⟩) ∧ w.cell? ⟨X, 2, none⟩ = some (.int .u64 t.v) :=
  ⟨by rw [World.cell?, h]; rfl, by rw [World.cell?, h]; rfl, by rw [World.cell?, h]; rfl⟩
theorem TC.kept {w w' : World} {X p : Nat} {t : Ti} (h : TC w X t) (hk : KP p w w') (hne : X ≠ p) : TC w' X t := (hk.block X (lt_of_block h) (fun e => hne (by cases e; rfl))).trans h
theorem lay_t {w u : World} {p : Nat} {l : List Ti} {g : Bool} (hR : RR u p l g) (hK : KP p w u) (t : Ti) :
    RR (layT u t) p l g ∧ KP p w (layT u t) ∧ TC (layT u t) u.heap.size t ∧ u.heap.size ≠ p := by
  have hb : Below u.heap.size u (layT u t) := (Below.refl _ u).alloc (Nat.le_refl _) _
  exact ⟨hR.below hb hR.lt, KP.below hK hb hK.size, (MapKept.heap_alloc u _).1, by have := hR.lt; omega⟩
set_option maxRecDepth 100000 in
set_option maxHeartbeats 2000000 in
theorem take_no {w : World} {p : Nat} {l : List Ti} {g : Bool} (h : RR w p l g) (s : List UInt8) (hs : isSg s (nextT l) = false) :
    Calls Tryz.prog 63 #[.pointer (some ⟨p, 0, none⟩), .string ⟨s.toArray⟩] w (Did (.bool false) p l g w) := by
  have HN := Lib.hid (next_r h)
  have HC : Hid (((nextT l).kind != 4) = true ∨ ((nextT l).kind != 4) = false ∧ (!((nextT l).text == s)) = true) := Lib.hid (by
    unfold isSg at hs
    by_cases c : (nextT l).kind = 4
    · refine .inr ⟨by rw [c]; rfl, ?_⟩
      rw [c] at hs
      simp only [beq_self_eq_true, Bool.true_and] at hs
      rw [hs]; rfl
    · exact .inl (by rw [bne_iff_ne]; exact c))
  obtain ⟨t, ht⟩ : ∃ t, nextT l = t := ⟨_, rfl⟩
  rw [ht] at HN HC
  clear h hs ht
  go_enter Tryz.func63, Tryz.ntmps63
  go_wp2_with fail
  refine HN.out.mono ?_
  rintro e u ⟨rfl, hR, hK⟩
  have HL := Lib.hid (lay_t hR hK t)
  clear hR hK
  obtain ⟨c0, c1, c2⟩ := HL.out.2.2.1.cells
  rcases HC.out with hk | ⟨hk, hx⟩
  all_goals go_wp2
  all_goals go_ret
  all_goals exact ⟨rfl, HL.out.1, HL.out.2.1⟩
set_option maxRecDepth 100000 in
set_option maxHeartbeats 2000000 in
theorem take_yes {w : World} {p : Nat} {t : Ti} {r : List Ti} {g : Bool} (h : RR w p (t :: r) g) (s : List UInt8) (hs : isSg s t = true) :
    Calls Tryz.prog 63 #[.pointer (some ⟨p, 0, none⟩), .string ⟨s.toArray⟩] w (Did (.bool true) p r g w) := by
  have HN : Hid (Calls Tryz.prog 61 #[.pointer (some ⟨p, 0, none⟩)] w (Did (tiV t) p (t :: r) g w)) := Lib.hid (next_r h)
  unfold isSg at hs
  simp only [Bool.and_eq_true, beq_iff_eq] at hs
  have hk : (t.kind != 4) = false := by rw [hs.1]; rfl
  have hx : (!(t.text == s)) = false := by rw [hs.2]; simp
  clear h hs
  go_enter Tryz.func63, Tryz.ntmps63
  go_wp2_with fail
  refine HN.out.mono ?_
  rintro e u ⟨rfl, hR, hK⟩
  have HL := Lib.hid (lay_t hR hK t)
  clear hR hK
  obtain ⟨c0, c1, c2⟩ := HL.out.2.2.1.cells
  obtain ⟨k, m, k1, k2, k3, HS⟩ := HL.out.1.step
  have HS := Lib.hid HS
  go_wp2
  go_ret
  exact ⟨rfl, HS.out, KP.trans' HL.out.2.1 (KP.step _ _ _ _)⟩
theorem want_yes {w : World} {p : Nat} {t : Ti} {r : List Ti} {g : Bool} (h : RR w p (t :: r) g) (s : List UInt8) (hs : isSg s t = true) :
    Calls Tryz.prog 33 #[.pointer (some ⟨p, 0, none⟩), .string ⟨s.toArray⟩] w (Did (.tuple #[]) p r g w) := by
  have HN := Lib.hid (take_yes h s hs)
  clear h hs
  go_enter Tryz.func33, Tryz.ntmps33
  go_wp2_with fail
  refine HN.out.mono ?_
  rintro e u ⟨rfl, hR, hK⟩
  have HR := Lib.hid hR
  have HK := Lib.hid hK
  clear hR hK
  go_wp2
  refine bodyPost_ret (results_none rfl _ _ _) rfl ?_
  exact ⟨rfl, HR.out, HK.out⟩
theorem want_no {w : World} {p : Nat} {l : List Ti} {g : Bool} (h : RR w p l g) (s : List UInt8) (hs : isSg s (nextT l) = false) :
    Calls Tryz.prog 33 #[.pointer (some ⟨p, 0, none⟩), .string ⟨s.toArray⟩] w (Thr p w) := by
  have HN := Lib.hid (take_no h s hs)
  clear h hs
  go_enter Tryz.func33, Tryz.ntmps33
  go_wp2_with fail
  refine HN.out.mono ?_
  rintro e u ⟨rfl, hR, hK⟩
  have HK := Lib.hid hK
  clear hR hK
  go_wp2
  exact ⟨rfl, rfl, HK.out⟩
open Go.ChangeShapes Go.WideShapes Go.Deep Go.RowKit

theorem RR.greatStep {w : World} {p : Nat} {t : Ti} {r : List Ti} {g : Bool} (h : RR w p (t :: r) g) :
    ∃ k m : Nat, w.cell? ⟨p, 1, none⟩ = some (.int .i64 (k : Int)) ∧ w.frozen? ⟨p, 1, none⟩ = false ∧ w.frozen? ⟨p, 2, none⟩ = false ∧ w.cell? ⟨p, 2, none⟩ = some (.bool g) ∧ IntKind.i64.wrap ((k : Int) + 1) = (m : Int) ∧
      RR ((w.setCell ⟨p, 2, none⟩ (.bool true)).setCell ⟨p, 1, none⟩ (.int .i64 (m : Int))) p r true := by
  obtain ⟨ts, k, h1, h2, h3, h4, h, hT⟩ := h
  obtain ⟨a, c, -, c1, c2, f1, f2⟩ := h.cells
  have hl := congrArg List.length h4
  simp only [List.length_drop, List.length_cons] at hl
  refine ⟨k, k + 1, c1, f1, f2, c2, by rw [IntKind.wrap_i64]; omega, ts, k + 1, h1, h2, by omega, ?_, (h.great true).step (k + 1), (hT.kp (KP.step _ _ _ _)).kp (KP.step _ _ _ _)⟩
  rw [← List.drop_drop, h4]; rfl
theorem TC.set {w : World} {X p o : Nat} {t : Ti} (h : TC w X t) (hne : X ≠ p) (v : Value) : TC (w.setCell ⟨p, o, none⟩ v) X t := h.kept (KP.step _ _ _ _) hne
set_option maxRecDepth 100000 in
set_option maxHeartbeats 2000000 in
theorem digits_ok {w : World} {p : Nat} {t : Ti} {r : List Ti} {g g' : Bool} {v : Int} (h : RR w p (t :: r) g) (hd : digQ t = some (v, g')) :
    Calls Tryz.prog 84 #[.pointer (some ⟨p, 0, none⟩)] w (Did (.int .u64 v) p r (g || g') w) := by
  have HN : Hid (Calls Tryz.prog 61 #[.pointer (some ⟨p, 0, none⟩)] w (Did (tiV t) p (t :: r) g w)) := Lib.hid (next_r h)
  have HV := Lib.hid (fun u => NValue_any ⟨t.text.toArray⟩ u)
  clear h
  unfold digQ at hd
  split at hd
  · rename_i hk
    have hk2 : (t.kind != 2) = false := by rw [hk]; rfl
    clear hk
    obtain ⟨va, ve, hv⟩ : ∃ va ve, valS t.text = (va, ve) := ⟨_, _, rfl⟩
    rw [hv] at hd
    have HV : Hid (∀ u, Calls Tryz.prog 100 #[.string ⟨t.text.toArray⟩] u (RetB (two .u64 .i64 (va, ve)) u)) := Lib.hid fun u => by
      have := HV.out u
      rw [show (⟨t.text.toArray⟩ : ByteArray).data.toList = t.text by simp, hv] at this
      exact this
    split at hd
    · rename_i c0
      replace c0 : ve = 0 := c0
      cases hd
      subst c0
      go_enter Tryz.func84, Tryz.ntmps84
      go_wp2_with fail
      refine HN.out.mono ?_
      rintro e u ⟨rfl, hR, hK⟩
      have HL := Lib.hid (lay_t hR hK t)
      clear hR hK
      obtain ⟨x0, x1, x2⟩ := HL.out.2.2.1.cells
      go_wp2_with fail
      refine (HV.out _).mono ?_
      rintro e u2 ⟨rfl, hB⟩
      have HR2 := Lib.hid (HL.out.1.next hB)
      have HK2 := Lib.hid (KP.trans' HL.out.2.1 (KP.of_below (p := p) hB))
      clear hB
      obtain ⟨k, m, k1, k2, k3, HS⟩ := HR2.out.step
      have HS := Lib.hid HS
      go_wp2
      go_ret
      exact ⟨rfl, by rw [Bool.or_false]; exact HS.out, KP.trans' HK2.out (KP.step _ _ _ _)⟩
    · rename_i c0
      split at hd
      · rename_i c4
        replace c4 : ve = 4 := c4
        have hva : va = 0 := by
          have := (valS_range t.text).2.2
          rw [hv] at this
          rcases this with h | ⟨h, -⟩
          · exact absurd h c0
          · exact h
        cases hd
        subst c4 hva
        go_enter Tryz.func84, Tryz.ntmps84
        go_wp2_with fail
        refine HN.out.mono ?_
        rintro e u ⟨rfl, hR, hK⟩
        have HL := Lib.hid (lay_t hR hK t)
        clear hR hK
        obtain ⟨x0, x1, x2⟩ := HL.out.2.2.1.cells
        go_wp2_with fail
        refine (HV.out _).mono ?_
        rintro e u2 ⟨rfl, hB⟩
        have HR2 := Lib.hid (HL.out.1.next hB)
        have HK2 := Lib.hid (KP.trans' HL.out.2.1 (KP.of_below (p := p) hB))
        clear hB
        obtain ⟨k, m, k1, k2, k3, k4, k5, HS⟩ := HR2.out.greatStep
        have HS := Lib.hid HS
        go_wp2
        go_ret
        exact ⟨rfl, by rw [Bool.or_true]; exact HS.out, KP.trans' (KP.trans' HK2.out (KP.step _ _ _ _)) (KP.step _ _ _ _)⟩
      · cases hd
  · cases hd
theorem digits_no {w : World} {p : Nat} {l : List Ti} {g : Bool} (h : RR w p l g) (hd : digitsP l = none) :
    Calls Tryz.prog 84 #[.pointer (some ⟨p, 0, none⟩)] w (Thr p w) := by
  have HN := Lib.hid (next_r h)
  have hd' : digQ (nextT l) = none := by
    cases l with
    | nil => rfl
    | cons t r =>
      unfold digitsP oneP at hd
      show digQ t = none
      cases hq : digQ t with
      | none => rfl
      | some x => obtain ⟨x1, x2⟩ := x; simp [hq] at hd
  obtain ⟨t, ht⟩ : ∃ t, nextT l = t := ⟨_, rfl⟩
  rw [ht] at HN hd'
  clear ht hd
  have HV := Lib.hid (fun u => NValue_any ⟨t.text.toArray⟩ u)
  clear h
  unfold digQ at hd'
  by_cases hk : t.kind = 2
  · rw [if_pos hk] at hd'
    have hk2 : (t.kind != 2) = false := by rw [hk]; rfl
    clear hk
    obtain ⟨va, ve, hv⟩ : ∃ va ve, valS t.text = (va, ve) := ⟨_, _, rfl⟩
    rw [hv] at hd'
    have HV : Hid (∀ u, Calls Tryz.prog 100 #[.string ⟨t.text.toArray⟩] u (RetB (two .u64 .i64 (va, ve)) u)) := Lib.hid fun u => by
      have := HV.out u
      rw [show (⟨t.text.toArray⟩ : ByteArray).data.toList = t.text by simp, hv] at this
      exact this
    by_cases c0 : ve = 0
    · rw [if_pos c0] at hd'; cases hd'
    · rw [if_neg c0] at hd'
      by_cases c4 : ve = 4
      · rw [if_pos c4] at hd'; cases hd'
      · clear hd'
        have hb0 : (ve == 0) = false := by rw [beq_eq_false_iff_ne]; exact c0
        have hb4 : (ve == 4) = false := by rw [beq_eq_false_iff_ne]; exact c4
        clear c0 c4
        go_enter Tryz.func84, Tryz.ntmps84
        go_wp2_with fail
        refine HN.out.mono ?_
        rintro e u ⟨rfl, hR, hK⟩
        have HL := Lib.hid (lay_t hR hK t)
        clear hR hK
        obtain ⟨x0, x1, x2⟩ := HL.out.2.2.1.cells
        go_wp2_with fail
        refine (HV.out _).mono ?_
        rintro e u2 ⟨rfl, hB⟩
        have HK2 := Lib.hid (KP.trans' HL.out.2.1 (KP.of_below (p := p) hB))
        clear hB
        go_wp2
        exact ⟨rfl, rfl, HK2.out⟩
  · clear hd'
    have hk2 : (t.kind != 2) = true := by rw [bne_iff_ne]; exact hk
    clear hk
    go_enter Tryz.func84, Tryz.ntmps84
    go_wp2_with fail
    refine HN.out.mono ?_
    rintro e u ⟨rfl, hR, hK⟩
    have HL := Lib.hid (lay_t hR hK t)
    clear hR hK
    obtain ⟨x0, x1, x2⟩ := HL.out.2.2.1.cells
    go_wp2
    exact ⟨rfl, rfl, HL.out.2.1⟩
theorem next_cons {l : List Ti} {t : Ti} (h : nextT l = t) (hk : t.kind ≠ 0) : ∃ r, l = t :: r := by
  cases l with
  | nil => rw [show nextT [] = tiZ from rfl] at h; rw [← h] at hk; exact absurd rfl hk
  | cons a r => exact ⟨r, by rw [show nextT (a :: r) = a from rfl] at h; rw [h]⟩
theorem digits_some {l r : List Ti} {v : Int} {g : Bool} (h : digitsP l = some (v, r, g)) : ∃ t, l = t :: r ∧ digQ t = some (v, g) := by
  unfold digitsP oneP at h
  split at h
  · cases h
  · rename_i t r'
    split at h
    · cases h
    · rename_i e
      simp only [Option.some.injEq, Prod.mk.injEq] at h
      obtain ⟨rfl, rfl, rfl⟩ := h
      exact ⟨t, rfl, e⟩
set_option maxRecDepth 100000 in
set_option maxHeartbeats 2000000 in
theorem plain_ok {w : World} {p : Nat} {l r : List Ti} {g g' : Bool} {v : Int} (h : RR w p l g) (hd : plainP l = some (v, r, g')) :
    Calls Tryz.prog 64 #[.pointer (some ⟨p, 0, none⟩)] w (Did (.int .u64 v) p r (g || g') w) := by
  have HN := Lib.hid (next_r h)
  unfold plainP ifP at hd
  by_cases hk : ((nextT l).kind == 5) = true
  · rw [if_pos hk] at hd
    obtain ⟨t, rfl, ht⟩ : ∃ t, l = t :: r ∧ some (t.v, false) = some (v, g') := by
      unfold oneP at hd
      split at hd
      · cases hd
      · rename_i t r'
        simp only [Option.some.injEq, Prod.mk.injEq] at hd
        obtain ⟨rfl, rfl, rfl⟩ := hd
        exact ⟨t, rfl, rfl⟩
    cases ht
    replace hk : (t.kind == 5) = true := hk
    rw [show nextT (t :: r) = t from rfl] at HN
    clear h hd
    go_enter Tryz.func64, Tryz.ntmps64
    go_wp2_with fail
    refine HN.out.mono ?_
    rintro e u ⟨rfl, hR, hK⟩
    have HL := Lib.hid (lay_t hR hK t)
    clear hR hK
    obtain ⟨x0, x1, x2⟩ := HL.out.2.2.1.cells
    obtain ⟨k, m, k1, k2, k3, HS⟩ := HL.out.1.step
    obtain ⟨y0, y1, y2⟩ := (HL.out.2.2.1.set (o := 1) HL.out.2.2.2 (.int .i64 (m : Int))).cells
    have HS := Lib.hid HS
    go_wp2
    go_ret
    exact ⟨rfl, by rw [Bool.or_false]; exact HS.out, KP.trans' HL.out.2.1 (KP.step _ _ _ _)⟩
  · rw [if_neg hk] at hd
    obtain ⟨t, rfl, ht⟩ := digits_some hd
    replace hk : (t.kind == 5) = false := by simpa [nextT] using hk
    rw [show nextT (t :: r) = t from rfl] at HN
    clear h hd
    go_enter Tryz.func64, Tryz.ntmps64
    go_wp2_with fail
    refine HN.out.mono ?_
    rintro e u ⟨rfl, hR, hK⟩
    have HL := Lib.hid (lay_t hR hK t)
    clear hR hK
    obtain ⟨x0, x1, x2⟩ := HL.out.2.2.1.cells
    have HT := Lib.hid ht
    clear ht
    go_wp2_with fail
    refine (digits_ok HL.out.1 HT.out).mono ?_
    rintro e u2 ⟨rfl, hR2, hK2⟩
    have HR2 := Lib.hid hR2
    have HK2 := Lib.hid (KP.trans' HL.out.2.1 hK2)
    clear hR2 hK2
    go_wp2
    go_ret
    exact ⟨rfl, HR2.out, HK2.out⟩
theorem plain_no {w : World} {p : Nat} {l : List Ti} {g : Bool} (h : RR w p l g) (hd : plainP l = none) :
    Calls Tryz.prog 64 #[.pointer (some ⟨p, 0, none⟩)] w (Thr p w) := by
  have HN := Lib.hid (next_r h)
  unfold plainP ifP at hd
  by_cases hk : ((nextT l).kind == 5) = true
  · rw [if_pos hk] at hd
    obtain ⟨t, ht⟩ : ∃ t, nextT l = t := ⟨_, rfl⟩
    obtain ⟨r, rfl⟩ := next_cons ht (by rw [← ht]; rw [beq_iff_eq] at hk; rw [hk]; decide)
    cases hd
  · rw [if_neg hk] at hd
    replace hk : ((nextT l).kind == 5) = false := by simpa using hk
    have HD := Lib.hid hd
    obtain ⟨t, ht⟩ : ∃ t, nextT l = t := ⟨_, rfl⟩
    rw [ht] at HN hk
    clear h hd ht
    go_enter Tryz.func64, Tryz.ntmps64
    go_wp2_with fail
    refine HN.out.mono ?_
    rintro e u ⟨rfl, hR, hK⟩
    have HL := Lib.hid (lay_t hR hK t)
    clear hR hK
    obtain ⟨x0, x1, x2⟩ := HL.out.2.2.1.cells
    go_wp2_with fail
    refine (digits_no HL.out.1 HD.out).mono ?_
    rintro e u2 ⟨rfl, hK2⟩
    exact ⟨rfl, rfl, KP.trans' HL.out.2.1 hK2⟩
end Go.Proofs.YthejefldnpeciaaGreatDoor
