/- operand: the reader's memory; ended, next, take, want. -/
import Derived.Test.YtngoipcjipbelaaDoorOD
import Derived.Laws.Rows
import Derived.StillTailTactics
namespace Go.Proofs.YtngoipcjipbelaaDoor
set_option linter.unusedVariables false
set_option linter.unusedSimpArgs false
open Go.ChangeShapes Go.WideShapes Go.Deep Go.RowKit

theorem tiC_len (t : Ti) : (tiC t).length = 3 := rfl
abbrev tiV (t : Ti) : Value := .agg #[.int .i64 t.kind, .string ⟨t.text.toArray⟩, .int .u64 t.v]
/-- The reader at block p: its tokens, its place, and whether a number was too great. -/
def OR (w : World) (p : Nat) (ts : List Ti) (at' : Nat) (g : Bool) : Prop :=
  ∃ a c, w.heap[p]? = some (.cells #[.slice a ts.length c, .int .i64 (at' : Int), .bool g] 89 (0, 0)) ∧ SL tiC 3 w (p - 2) a ts.length ts
theorem OR.lt {w : World} {p at' : Nat} {ts : List Ti} {g : Bool} (h : OR w p ts at' g) : p < w.heap.size := by obtain ⟨a, c, h1, -⟩ := h; exact lt_of_block h1
theorem OR.below {w w' : World} {p at' B : Nat} {ts : List Ti} {g : Bool} (h : OR w p ts at' g) (hb : Below B w w') (hp : p < B) : OR w' p ts at' g := by
  obtain ⟨a, c, h1, h2⟩ := h
  exact ⟨a, c, (hb.block p hp).trans h1, h2.below (hb.mono (by omega))⟩
theorem OR.step {w : World} {p at' : Nat} {ts : List Ti} {g : Bool} (h : OR w p ts at' g) (x : Nat) : OR (w.setCell ⟨p, 1, none⟩ (.int .i64 (x : Int))) p ts x g := by
  obtain ⟨a, c, h1, h2⟩ := h
  refine ⟨a, c, ?_, h2.below (((Below.refl p w).setCell (p := ⟨p, 1, none⟩) (Nat.le_refl _) _).mono (by omega))⟩
  unfold World.setCell
  simp [h1, Array.getElem?_modify]
theorem OR.great {w : World} {p at' : Nat} {ts : List Ti} {g : Bool} (h : OR w p ts at' g) (x : Bool) : OR (w.setCell ⟨p, 2, none⟩ (.bool x)) p ts at' x := by
  obtain ⟨a, c, h1, h2⟩ := h
  refine ⟨a, c, ?_, h2.below (((Below.refl p w).setCell (p := ⟨p, 2, none⟩) (Nat.le_refl _) _).mono (by omega))⟩
  unfold World.setCell
  simp [h1, Array.getElem?_modify]
theorem OR.cells {w : World} {p at' : Nat} {ts : List Ti} {g : Bool} (h : OR w p ts at' g) : ∃ a c, w.cell? ⟨p, 0, none⟩ = some (.slice a ts.length c) ∧ w.cell? ⟨p, 1, none⟩ = some (.int .i64 (at' : Int)) ∧ w.cell? ⟨p, 2, none⟩ = some (.bool g) ∧
    w.frozen? ⟨p, 1, none⟩ = false ∧ w.frozen? ⟨p, 2, none⟩ = false := by
  obtain ⟨a, c, hp, -⟩ := h
  exact ⟨a, c, by rw [World.cell?, hp]; rfl, by rw [World.cell?, hp]; rfl, by rw [World.cell?, hp]; rfl, by rw [World.frozen?, hp]; rfl, by rw [World.frozen?, hp]; rfl⟩
theorem OR.drewN {w : World} {p at' : Nat} {ts : List Ti} {g : Bool} (h : OR w p ts at' g) (n : Nat) : OR (w.drewN n) p ts at' g := by
  obtain ⟨a, c, h1, h2⟩ := h
  exact ⟨a, c, h1, h2.below (below_drewN (Below.refl _ _) n)⟩
theorem OR.side {w : World} {p at' X j : Nat} {ts : List Ti} {g : Bool} (h : OR w p ts at' g) (h1 : p - 2 ≤ X) (h2 : X ≠ p) (v : Value) : OR (w.setCell ⟨X, j, none⟩ v) p ts at' g := by
  obtain ⟨a, c, h3, h4⟩ := h
  exact ⟨a, c, (Below.heap_setCell _ _ _ _ (fun e => h2 (by rw [e]))).trans h3, h4.below ((Below.refl _ w).setCell (p := ⟨X, j, none⟩) h1 _)⟩
/-- What a call that reads hands back. -/
def ReadP (v : Value) (p : Nat) (ts : List Ti) (at' : Nat) (g : Bool) (w : World) (e : Ending) (w' : World) : Prop := e = .returned v ∧ OR w' p ts at' g ∧ KP p w w'
set_option maxRecDepth 100000 in
set_option maxHeartbeats 1000000 in
theorem ended_any {w : World} {p at' : Nat} {ts : List Ti} {g : Bool} (h : OR w p ts at' g) :
    Calls Tryd.prog 51 #[.pointer (some ⟨p, 0, none⟩)] w (ReadP (.bool (decide (ts.length ≤ at'))) p ts at' g w) := by
  obtain ⟨a, c, c0, c1, -⟩ := h.cells
  obtain ⟨n, hn⟩ : ∃ n, n = ts.length := ⟨_, rfl⟩
  rw [← hn] at c0 ⊢
  have H := Lib.hid h
  clear h hn
  go_enter Tryd.func51, Tryd.ntmps51
  go_wp2
  go_quiet (fail)
  go_wp2
  go_ret
  exact ⟨by simp, H.out.drewN _, (KP.refl _ _).drewN _⟩
theorem next_none {ts : List Ti} {k : Nat} (h : ts.length ≤ k) : nextT (ts.drop k) = tiZ := by rw [List.drop_eq_nil_of_le h]; rfl
theorem next_some {ts : List Ti} {k : Nat} (h : k < ts.length) : nextT (ts.drop k) = ts[k] := by rw [drop_cons h]; rfl
theorem tb_end {w u : World} {X p at' : Nat} {ts : List Ti} {g : Bool} (ht : TB u X) (hR : OR u p ts at' g) (hK : KP p w u) (hX : X = w.heap.size) (hp : p < X) (x y z : Value) :
    OR (((u.setCell ⟨X, 0, none⟩ x).setCell ⟨X, 1, none⟩ y).setCell ⟨X, 2, none⟩ z) p ts at' g ∧ KP p w (((u.setCell ⟨X, 0, none⟩ x).setCell ⟨X, 1, none⟩ y).setCell ⟨X, 2, none⟩ z) ∧
    (((u.setCell ⟨X, 0, none⟩ x).setCell ⟨X, 1, none⟩ y).setCell ⟨X, 2, none⟩ z).heap[X]? = some (.cells #[x, y, z] 31 (0, 0)) := by
  have hb : Below X u (((u.setCell ⟨X, 0, none⟩ x).setCell ⟨X, 1, none⟩ y).setCell ⟨X, 2, none⟩ z) :=
    (((Below.refl X u).setCell (p := ⟨X, 0, none⟩) (Nat.le_refl _) x).setCell (p := ⟨X, 1, none⟩) (Nat.le_refl _) y).setCell (p := ⟨X, 2, none⟩) (Nat.le_refl _) z
  exact ⟨hR.below hb hp, KP.below hK hb (by omega), set3 ht⟩
theorem ti_cells {w : World} {b off : Nat} {k : Nat} {t : Ti} (hc : ∀ j, j < 3 → w.cell? ⟨b, off + k * 3 + j, none⟩ = (tiC t)[j]?) :
    w.cell? ⟨b, off + k * 3, none⟩ = some (.int .i64 t.kind) ∧ w.cell? ⟨b, off + k * 3 + 1, none⟩ = some (.string ⟨t.text.toArray⟩) ∧ w.cell? ⟨b, off + k * 3 + 2, none⟩ = some (.int .u64 t.v) :=
  ⟨hc 0 (by omega), hc 1 (by omega), hc 2 (by omega)⟩
set_option maxRecDepth 100000 in
set_option maxHeartbeats 2000000 in
theorem next_any {w : World} {p at' : Nat} {ts : List Ti} {g : Bool} (h : OR w p ts at' g) (h2 : ts.length ≤ 1000000) :
    Calls Tryd.prog 74 #[.pointer (some ⟨p, 0, none⟩)] w (ReadP (tiV (nextT (ts.drop at'))) p ts at' g w) := by
  obtain ⟨X, hX⟩ : ∃ X, X = w.heap.size := ⟨_, rfl⟩
  have hpX : p < X := by rw [hX]; exact h.lt
  have hb0 : Below w.heap.size w (w.alloc (.cells #[.int .i64 0, .string ⟨#[]⟩, .int .u64 0] 31)) := (Below.refl _ _).alloc (Nat.le_refl _) _
  have HR0 := Lib.hid (h.below hb0 h.lt)
  have HK0 := Lib.hid (KP.of_below (p := p) hb0)
  have HT0 : Hid (TB (w.alloc (.cells #[.int .i64 0, .string ⟨#[]⟩, .int .u64 0] 31)) X) := Lib.hid (by rw [hX]; exact (MapKept.heap_alloc w _).1)
  have HX := Lib.hid hX
  have HNE : Hid (X ≠ p) := Lib.hid (by omega)
  have HPX := Lib.hid hpX
  have HL := Lib.hid h2
  clear h h2 hb0 hpX
  by_cases he : ts.length ≤ at'
  · have HN := Lib.hid (next_none he)
    have HE : Hid (decide (ts.length ≤ at') = true) := Lib.hid (decide_eq_true he)
    clear he
    go_enter Tryd.func74, Tryd.ntmps74
    go_wp2_with fail
    rw [← hX]
    clear hX
    generalize w.alloc (.cells #[.int .i64 0, .string ⟨#[]⟩, .int .u64 0] 31) = W0 at HR0 HK0 HT0 ⊢
    refine (ended_any HR0.out).mono ?_
    rintro e u1 ⟨rfl, hR, hK⟩
    rw [HE.out]
    have HR1 := Lib.hid hR
    have HK1 := Lib.hid (KP.trans' HK0.out hK)
    have HT1 := Lib.hid (HT0.out.kept hK HNE.out)
    clear hR hK
    obtain ⟨x0, x1, x2, y0, y1, y2⟩ := HT1.out.cells
    have hXl : X < u1.heap.size := lt_of_block HT1.out
    have HEN := Lib.hid (tb_end HT1.out HR1.out HK1.out HX.out HPX.out (.int .i64 0) (.string ⟨#[]⟩) (.int .u64 0))
    go_wp2
    refine bodyPost_ret (results_cell_row (P := Tryd.prog) rfl _ _ X 31 _ (0, 0) _ rfl HEN.out.2.2 Tryd.underlying31 rfl (by kernel_rfl)) rfl ?_
    exact ⟨by rw [HN.out], HEN.out.1, HEN.out.2.1⟩
  · have hlt : at' < ts.length := by omega
    obtain ⟨t, htn, htc⟩ : ∃ t, nextT (ts.drop at') = t ∧ ts[at']? = some t := ⟨_, next_some hlt, List.getElem?_eq_getElem hlt⟩
    have HN := Lib.hid htn
    have HTC := Lib.hid htc
    have HE : Hid (decide (ts.length ≤ at') = false) := Lib.hid (decide_eq_false he)
    have HLT := Lib.hid hlt
    clear he hlt htn htc
    go_enter Tryd.func74, Tryd.ntmps74
    go_wp2_with fail
    rw [← hX]
    clear hX
    generalize w.alloc (.cells #[.int .i64 0, .string ⟨#[]⟩, .int .u64 0] 31) = W0 at HR0 HK0 HT0 ⊢
    refine (ended_any HR0.out).mono ?_
    rintro e u1 ⟨rfl, hR, hK⟩
    rw [HE.out]
    have HR1 := Lib.hid hR
    have HK1 := Lib.hid (KP.trans' HK0.out hK)
    have HT1 := Lib.hid (HT0.out.kept hK HNE.out)
    obtain ⟨a, c, hp0, hsl⟩ := hR
    obtain ⟨b, off, rfl, hB, hc⟩ := hsl.cells (hsl.ne HLT.out)
    obtain ⟨d0, d1, d2⟩ := ti_cells (fun j hj => hc at' HLT.out j hj)
    have ht : ts[at']'(HLT.out) = t := by
      have := HTC.out
      rw [List.getElem?_eq_getElem HLT.out] at this
      exact Option.some.inj this
    rw [ht] at d0 d1 d2
    have c0 : u1.cell? ⟨p, 0, none⟩ = some (.slice (some ⟨b, off, none⟩) ts.length c) := by rw [World.cell?, hp0]; rfl
    have c1 : u1.cell? ⟨p, 1, none⟩ = some (.int .i64 (at' : Int)) := by rw [World.cell?, hp0]; rfl
    obtain ⟨n, hn⟩ : ∃ n, n = ts.length := ⟨_, rfl⟩
    rw [← hn] at c0
    have hltz : (at' : Int) < (n : Int) := by have := HLT.out; omega
    have hat0 : (0 : Int) ≤ (at' : Int) := by omega
    have hbX : b ≠ X := by have := HPX.out; omega
    clear hK hp0 hsl hc ht hn
    obtain ⟨x0, x1, x2, y0, y1, y2⟩ := HT1.out.cells
    have hXl : X < u1.heap.size := lt_of_block HT1.out
    have HEN := Lib.hid (tb_end HT1.out HR1.out HK1.out HX.out HPX.out (.int .i64 t.kind) (.string ⟨t.text.toArray⟩) (.int .u64 t.v))
    go_wp2
    go_region
    all_goals go_wp2
    refine bodyPost_ret (results_cell_row (P := Tryd.prog) rfl _ _ X 31 _ (0, 0) _ rfl (by exact HEN.out.2.2) Tryd.underlying31 rfl (by kernel_rfl)) rfl ?_
    exact ⟨by rw [HN.out], HEN.out.1.drewN 1, HEN.out.2.1.drewN 1⟩
end Go.Proofs.YtngoipcjipbelaaDoor
