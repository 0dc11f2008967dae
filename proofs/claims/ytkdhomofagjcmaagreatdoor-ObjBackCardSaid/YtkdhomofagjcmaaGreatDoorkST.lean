/- obj: the reader: took, number. obj: Get of two texts that the law gives. obj: Get of the two texts that the law gives; what its closure catches. The law's held: constants. obj's reference: Big tells something. -/
import Derived.Test.YtkdhomofagjcmaaGreatDoorkSH
import Derived.Laws.Rows
import Derived.Defers
import Derived.Recover
import Derived.Deep.RegionLaw
namespace Go.Proofs.YtkdhomofagjcmaaGreatDoor
set_option linter.unusedVariables false
set_option linter.unusedSimpArgs false
open Go.RowKit
open Go.ChangeShapes Go.WideShapes Go.Deep Go.RowKit
open Go.Proofs.YtkdhomofagjcmaaGreatDoor.Wi (getL gv Get_any getL_only getL_kind)

/-- The reader in block r has these bytes left. -/
abbrev RO (w : World) (r : Nat) (D : ByteArray) : Prop := RB w r #[.string D] 107
def ThrO (r : Nat) (w : World) (e : Ending) (w' : World) : Prop := e = .panicked [{ v := .iface 110 (.agg #[]), recovered := false }] ∧ KP r w w'
def DidO (v : Value) (r : Nat) (D : ByteArray) (w : World) (e : Ending) (w' : World) : Prop := e = .returned v ∧ RO w' r D ∧ KP r w w'
set_option maxRecDepth 100000 in
set_option maxHeartbeats 1000000 in
theorem took_ok (r : Nat) (D : ByteArray) (m : Nat) (hm : m ≤ D.size) (hD : D.size ≤ maxLen) (w : World) (h : RO w r D) :
    Calls Tryz.prog 116 #[.pointer (some ⟨r, 0, none⟩), .int .i64 (m : Int), .int .i64 0] w (DidO (.tuple #[]) r (D.extract m D.size) w) := by
  have H := Lib.hid h
  have c0 : w.cell? ⟨r, 0, none⟩ = some (.string D) := h.cell
  have f0 : w.frozen? ⟨r, 0, none⟩ = false := h.frozen
  have hmi : (m : Int) ≤ (D.size : Int) := by omega
  have hDi : (D.size : Int) ≤ 9223372036854775807 := by unfold maxLen at hD; omega
  clear h hD
  go_enter Tryz.func116, Tryz.ntmps116
  go_wp2
  have HS := Lib.hid (H.out.set (j := 0) (.string (D.extract m D.size)))
  exact ⟨rfl, _, results_none rfl _ _ _, rfl, HS.out, KP.step r w 0 _⟩
set_option maxRecDepth 100000 in
set_option maxHeartbeats 1000000 in
theorem took_no (r : Nat) (m e : Int) (he : e ≠ 0) (w : World) :
    Calls Tryz.prog 116 #[.pointer (some ⟨r, 0, none⟩), .int .i64 m, .int .i64 e] w (ThrO r w) := by
  have r1 : (e != 0) = true := by rw [bne_iff_ne]; exact he
  have r2 : (e == 0) = false := by simp; exact he
  clear he
  go_enter Tryz.func116, Tryz.ntmps116
  go_wp2
  exact ⟨rfl, rfl, KP.refl _ _⟩
set_option maxRecDepth 100000 in
set_option maxHeartbeats 1000000 in
theorem onum_ok (r : Nat) (D : ByteArray) (most : Int) (x m : Nat) (hg : getL D.data.toList = (x, m, 0)) (hx : (x : Int) ≤ most) (hmo : most ≤ 9223372036854775807) (hm : m ≤ D.size) (hD : D.size ≤ maxLen) (w : World) (h : RO w r D) :
    Calls Tryz.prog 92 #[.pointer (some ⟨r, 0, none⟩), .int .i64 most] w (DidO (.int .i64 (x : Int)) r (D.extract m D.size) w) := by
  have HGt : Hid (∀ u, Calls Tryz.prog 115 #[.string D] u (Ret (.tuple #[.int .u64 (x : Int), .int .i64 (m : Int), .int .i64 0]) u)) := Lib.hid fun u => by
    have := Get_any D u hD
    rw [hg] at this
    exact this
  have HTk := Lib.hid (fun u (hu : RO u r D) => took_ok r D m hm hD u hu)
  have H := Lib.hid h
  have c0 : w.cell? ⟨r, 0, none⟩ = some (.string D) := h.cell
  have hw1 : IntKind.u64.wrap most = most := by rw [IntKind.wrap_u64]; omega
  have hw2 : IntKind.i64.wrap (x : Int) = (x : Int) := by rw [IntKind.wrap_i64]; omega
  have hn : ¬ most < (x : Int) := by omega
  clear h hg hD hm
  go_enter Tryz.func92, Tryz.ntmps92
  go_wp2_with fail
  refine (HGt.out _).mono ?_
  rintro e u ⟨rfl, rfl⟩
  clear c0
  go_wp2_with fail
  refine (HTk.out _ H.out).mono ?_
  rintro e u ⟨rfl, hr, hk⟩
  have HR := Lib.hid hr
  have HK := Lib.hid hk
  clear hr hk
  go_wp2
  go_ret
  exact ⟨rfl, HR.out, HK.out⟩
set_option maxRecDepth 100000 in
set_option maxHeartbeats 1000000 in
theorem onum_bad (r : Nat) (D : ByteArray) (most : Int) (x m e : Nat) (hg : getL D.data.toList = (x, m, e)) (he : e ≠ 0) (hD : D.size ≤ maxLen) (w : World) (h : RO w r D) :
    Calls Tryz.prog 92 #[.pointer (some ⟨r, 0, none⟩), .int .i64 most] w (ThrO r w) := by
  have HGt : Hid (∀ u, Calls Tryz.prog 115 #[.string D] u (Ret (.tuple #[.int .u64 (x : Int), .int .i64 (m : Int), .int .i64 (e : Int)]) u)) := Lib.hid fun u => by
    have := Get_any D u hD
    rw [hg] at this
    exact this
  have HTk := Lib.hid (fun u => took_no r (m : Int) (e : Int) (by omega) u)
  have c0 : w.cell? ⟨r, 0, none⟩ = some (.string D) := h.cell
  clear h hg hD he
  go_enter Tryz.func92, Tryz.ntmps92
  go_wp2_with fail
  refine (HGt.out _).mono ?_
  rintro e u ⟨rfl, rfl⟩
  clear c0
  go_wp2_with fail
  refine (HTk.out _).mono ?_
  rintro e u ⟨rfl, hk⟩
  have HK := Lib.hid hk
  clear hk
  go_wp2
  exact ⟨rfl, rfl, HK.out⟩
open Go.ChangeShapes Go.WideShapes Go.Deep Go.RowKit
open Go.Proofs.YtkdhomofagjcmaaGreatDoor.Wi (getL gv Get_any)

set_option maxRecDepth 100000 in
set_option maxHeartbeats 2000000 in
theorem object_two (r : Nat) (w : World) (h : RO w r ⟨#[67, 76, 69, 65, 84, 1, 0, 0]⟩) :
    Calls Tryz.prog 64 #[.pointer (some ⟨r, 0, none⟩)] w (DidO (.agg #[.slice none 0 0, .slice none 0 0]) r ⟨#[]⟩ w) := by
  have HCut : Hid (∀ u, Calls Tryz.prog 91 #[.string ⟨#[67, 76, 69, 65, 84, 1, 0, 0]⟩, .string ⟨#[67, 76, 69, 65, 84, 1]⟩] u (Ret (.tuple #[.string ⟨#[0, 0]⟩, .bool true]) u)) := Lib.hid fun u => (Tryz.strings_CutPrefix ⟨#[67, 76, 69, 65, 84, 1, 0, 0]⟩ ⟨#[67, 76, 69, 65, 84, 1]⟩ u).mono fun e w' h => ⟨h.1.trans (by kernel_rfl), h.2.symm⟩
  have hr := lt_of_block h
  obtain ⟨X, hX⟩ : ∃ X, X = w.heap.size := ⟨_, rfl⟩
  have hXr : X ≠ r := by omega
  have HXr := Lib.hid hXr
  have HXE := Lib.hid hX
  have HA : Hid (Below w.heap.size w (w.alloc (.cells #[.slice none 0 0, .slice none 0 0] 25))) := Lib.hid ((Below.refl _ w).alloc (Nat.le_refl _) _)
  have HRr : Hid (RO (w.alloc (.cells #[.slice none 0 0, .slice none 0 0] 25)) r ⟨#[67, 76, 69, 65, 84, 1, 0, 0]⟩) := Lib.hid (h.next HA.out)
  have HRX : Hid (RB (w.alloc (.cells #[.slice none 0 0, .slice none 0 0] 25)) X #[.slice none 0 0, .slice none 0 0] 25) := Lib.hid (by rw [hX]; exact (MapKept.heap_alloc w _).1)
  have HK : Hid (KP r w (w.alloc (.cells #[.slice none 0 0, .slice none 0 0] 25))) := Lib.hid ((KP.refl r w).lies _)
  clear hX hr h hXr
  go_enter Tryz.func64, Tryz.ntmps64
  have c0 : (w.alloc (.cells #[.slice none 0 0, .slice none 0 0] 25)).cell? ⟨r, 0, none⟩ = some (.string ⟨#[67, 76, 69, 65, 84, 1, 0, 0]⟩) := HRr.out.cell
  have f0 : (w.alloc (.cells #[.slice none 0 0, .slice none 0 0] 25)).frozen? ⟨r, 0, none⟩ = false := HRr.out.frozen
  go_wp2_with fail
  try rw [← HXE.out]
  generalize w.alloc (.cells #[.slice none 0 0, .slice none 0 0] 25) = W at HA HRr HRX HK c0 f0 ⊢
  refine (HCut.out _).mono ?_
  rintro e u ⟨rfl, rfl⟩
  have HRr2 := Lib.hid (HRr.out.set (j := 0) (.string ⟨#[0, 0]⟩))
  have hK2 := HK.out.trans' (KP.step r W 0 (.string ⟨#[0, 0]⟩))
  have HRX2 := Lib.hid (HRX.out.kept (KP.step r W 0 (.string ⟨#[0, 0]⟩)) HXr.out)
  have HK2 := Lib.hid hK2
  obtain ⟨Y, hY⟩ : ∃ Y, Y = (W.setCell ⟨r, 0, none⟩ (.string ⟨#[0, 0]⟩)).heap.size := ⟨_, rfl⟩
  have hYX : X < Y := by rw [hY]; exact lt_of_block HRX2.out
  have hYr : r < Y := by rw [hY]; exact lt_of_block HRr2.out
  have HYE : Hid (Y = W.heap.size) := Lib.hid (by rw [hY]; simp [World.setCell])
  have hBA := (Below.refl (W.setCell ⟨r, 0, none⟩ (.string ⟨#[0, 0]⟩)).heap.size (W.setCell ⟨r, 0, none⟩ (.string ⟨#[0, 0]⟩))).alloc (Nat.le_refl _) (.cells #[.slice none 0 0, .slice none 0 0] 25)
  have HRr3 := Lib.hid (HRr2.out.next hBA)
  have HRX3 := Lib.hid (HRX2.out.next hBA)
  have HRY3 : Hid (RB ((W.setCell ⟨r, 0, none⟩ (.string ⟨#[0, 0]⟩)).alloc (.cells #[.slice none 0 0, .slice none 0 0] 25)) Y #[.slice none 0 0, .slice none 0 0] 25) := Lib.hid (by rw [hY]; exact (MapKept.heap_alloc _ _).1)
  have HK3 := Lib.hid (HK2.out.lies (.cells #[.slice none 0 0, .slice none 0 0] 25))
  have HYr : Hid (Y ≠ r) := Lib.hid (by omega)
  have HYX : Hid (Y ≠ X) := Lib.hid (by omega)
  clear hK2 hBA HRr2 HRX2 HK2 HRr HRX HK hY hYX hYr HA
  go_wp2_with fail
  clear c0 f0
  try rw [← HYE.out]
  generalize (W.setCell ⟨r, 0, none⟩ (.string ⟨#[0, 0]⟩)).alloc (.cells #[.slice none 0 0, .slice none 0 0] 25) = V at HRr3 HRX3 HRY3 HK3 ⊢
  clear HYE
  refine (onum_ok r ⟨#[0, 0]⟩ 32 0 1 (by kernel_rfl) (by decide) (by decide) (by decide) (by unfold maxLen; decide) _ HRr3.out).mono ?_
  rintro e u ⟨rfl, hr, hk⟩
  have HRr4 : Hid (RO u r ⟨#[0]⟩) := Lib.hid hr
  have HRX4 := Lib.hid (HRX3.out.kept hk HXr.out)
  have HRY4 := Lib.hid (HRY3.out.kept hk HYr.out)
  have HK4 := Lib.hid (HK3.out.trans' hk)
  clear hr hk HRr3 HRX3 HRY3 HK3
  go_wp2
  refine wp_loop_rounds 1 ?_
  rw [rounds_succ]
  go_wp2_with fail
  refine (onum_ok r ⟨#[0]⟩ 128 0 1 (by kernel_rfl) (by decide) (by decide) (by decide) (by unfold maxLen; decide) _ HRr4.out).mono ?_
  rintro e u2 ⟨rfl, hr, hk⟩
  have HRr5 : Hid (RO u2 r ⟨#[]⟩) := Lib.hid hr
  have hx5 := HRX4.out.kept hk HXr.out
  have hy5 := HRY4.out.kept hk HYr.out
  have HK5 := Lib.hid (HK4.out.trans' hk)
  clear hr hk HRr4 HRX4 HRY4 HK4
  have y0 : u2.cell? ⟨Y, 0, none⟩ = some (.slice none 0 0) := hy5.cell
  have y1 : u2.cell? ⟨Y, 1, none⟩ = some (.slice none 0 0) := hy5.cell
  have x0 : u2.cell? ⟨X, 0, none⟩ = some (.slice none 0 0) := hx5.cell
  have x1 : u2.cell? ⟨X, 1, none⟩ = some (.slice none 0 0) := hx5.cell
  have xf0 : u2.frozen? ⟨X, 0, none⟩ = false := hx5.frozen
  have xf1 : u2.frozen? ⟨X, 1, none⟩ = false := hx5.frozen
  have HQ : Hid (RB ((u2.setCell ⟨X, 0, none⟩ (.slice none 0 0)).setCell ⟨X, 1, none⟩ (.slice none 0 0)) X #[.slice none 0 0, .slice none 0 0] 25) := Lib.hid (by
    have h0 : RB (u2.setCell ⟨X, 0, none⟩ (.slice none 0 0)) X #[.slice none 0 0, .slice none 0 0] 25 := hx5.set (j := 0) _
    have h1 : RB ((u2.setCell ⟨X, 0, none⟩ (.slice none 0 0)).setCell ⟨X, 1, none⟩ (.slice none 0 0)) X #[.slice none 0 0, .slice none 0 0] 25 := h0.set (j := 1) _
    exact h1)
  have HKB : Hid (KP r w ((u2.setCell ⟨X, 0, none⟩ (.slice none 0 0)).setCell ⟨X, 1, none⟩ (.slice none 0 0))) := Lib.hid (by
    refine ⟨?_, ?_, ?_, ?_, ?_⟩
    · exact HK5.out.os
    · exact HK5.out.tape
    · exact HK5.out.output
    · have := HK5.out.size; simpa [World.setCell] using this
    · intro k hk hne
      have h1 : X ≠ k := by rw [HXE.out]; omega
      rw [Below.heap_setCell _ _ _ _ (fun e => h1 (by simpa using e.symm)), Below.heap_setCell _ _ _ _ (fun e => h1 (by simpa using e.symm))]
      exact HK5.out.block k hk hne)
  have HR5 : Hid (RO ((u2.setCell ⟨X, 0, none⟩ (.slice none 0 0)).setCell ⟨X, 1, none⟩ (.slice none 0 0)) r ⟨#[]⟩) := Lib.hid (by
    have := HRr5.out
    unfold RO RB at *
    rw [Below.heap_setCell _ _ _ _ (fun e => HXr.out (by simpa using e.symm)), Below.heap_setCell _ _ _ _ (fun e => HXr.out (by simpa using e.symm))]
    exact this)
  clear hx5 hy5 HRr5
  go_wp2
  refine wp_loop_rounds 1 ?_
  rw [rounds_succ]
  go_wp2
  refine bodyPost_ret (results_cell_row (P := Tryz.prog) rfl _ _ X 25 _ (0, 0) _ rfl HQ.out Tryz.underlying25 rfl (by kernel_rfl)) rfl ?_
  exact ⟨rfl, HR5.out, HKB.out⟩
set_option maxRecDepth 100000 in
set_option maxHeartbeats 2000000 in
theorem object_bad (r : Nat) (w : World) (h : RO w r ⟨#[67, 76, 69, 65, 84, 1, 0]⟩) :
    Calls Tryz.prog 64 #[.pointer (some ⟨r, 0, none⟩)] w (ThrO r w) := by
  have HCut : Hid (∀ u, Calls Tryz.prog 91 #[.string ⟨#[67, 76, 69, 65, 84, 1, 0]⟩, .string ⟨#[67, 76, 69, 65, 84, 1]⟩] u (Ret (.tuple #[.string ⟨#[0]⟩, .bool true]) u)) := Lib.hid fun u => (Tryz.strings_CutPrefix ⟨#[67, 76, 69, 65, 84, 1, 0]⟩ ⟨#[67, 76, 69, 65, 84, 1]⟩ u).mono fun e w' h => ⟨h.1.trans (by kernel_rfl), h.2.symm⟩
  have hr := lt_of_block h
  obtain ⟨X, hX⟩ : ∃ X, X = w.heap.size := ⟨_, rfl⟩
  have hXr : X ≠ r := by omega
  have HXr := Lib.hid hXr
  have HXE := Lib.hid hX
  have HA : Hid (Below w.heap.size w (w.alloc (.cells #[.slice none 0 0, .slice none 0 0] 25))) := Lib.hid ((Below.refl _ w).alloc (Nat.le_refl _) _)
  have HRr : Hid (RO (w.alloc (.cells #[.slice none 0 0, .slice none 0 0] 25)) r ⟨#[67, 76, 69, 65, 84, 1, 0]⟩) := Lib.hid (h.next HA.out)
  have HRX : Hid (RB (w.alloc (.cells #[.slice none 0 0, .slice none 0 0] 25)) X #[.slice none 0 0, .slice none 0 0] 25) := Lib.hid (by rw [hX]; exact (MapKept.heap_alloc w _).1)
  have HK : Hid (KP r w (w.alloc (.cells #[.slice none 0 0, .slice none 0 0] 25))) := Lib.hid ((KP.refl r w).lies _)
  clear hX hr h hXr
  go_enter Tryz.func64, Tryz.ntmps64
  have c0 : (w.alloc (.cells #[.slice none 0 0, .slice none 0 0] 25)).cell? ⟨r, 0, none⟩ = some (.string ⟨#[67, 76, 69, 65, 84, 1, 0]⟩) := HRr.out.cell
  have f0 : (w.alloc (.cells #[.slice none 0 0, .slice none 0 0] 25)).frozen? ⟨r, 0, none⟩ = false := HRr.out.frozen
  go_wp2_with fail
  try rw [← HXE.out]
  generalize w.alloc (.cells #[.slice none 0 0, .slice none 0 0] 25) = W at HA HRr HRX HK c0 f0 ⊢
  refine (HCut.out _).mono ?_
  rintro e u ⟨rfl, rfl⟩
  have HRr2 := Lib.hid (HRr.out.set (j := 0) (.string ⟨#[0]⟩))
  have hK2 := HK.out.trans' (KP.step r W 0 (.string ⟨#[0]⟩))
  have HRX2 := Lib.hid (HRX.out.kept (KP.step r W 0 (.string ⟨#[0]⟩)) HXr.out)
  have HK2 := Lib.hid hK2
  obtain ⟨Y, hY⟩ : ∃ Y, Y = (W.setCell ⟨r, 0, none⟩ (.string ⟨#[0]⟩)).heap.size := ⟨_, rfl⟩
  have hYX : X < Y := by rw [hY]; exact lt_of_block HRX2.out
  have hYr : r < Y := by rw [hY]; exact lt_of_block HRr2.out
  have HYE : Hid (Y = W.heap.size) := Lib.hid (by rw [hY]; simp [World.setCell])
  have hBA := (Below.refl (W.setCell ⟨r, 0, none⟩ (.string ⟨#[0]⟩)).heap.size (W.setCell ⟨r, 0, none⟩ (.string ⟨#[0]⟩))).alloc (Nat.le_refl _) (.cells #[.slice none 0 0, .slice none 0 0] 25)
  have HRr3 := Lib.hid (HRr2.out.next hBA)
  have HRX3 := Lib.hid (HRX2.out.next hBA)
  have HRY3 : Hid (RB ((W.setCell ⟨r, 0, none⟩ (.string ⟨#[0]⟩)).alloc (.cells #[.slice none 0 0, .slice none 0 0] 25)) Y #[.slice none 0 0, .slice none 0 0] 25) := Lib.hid (by rw [hY]; exact (MapKept.heap_alloc _ _).1)
  have HK3 := Lib.hid (HK2.out.lies (.cells #[.slice none 0 0, .slice none 0 0] 25))
  have HYr : Hid (Y ≠ r) := Lib.hid (by omega)
  have HYX : Hid (Y ≠ X) := Lib.hid (by omega)
  clear hK2 hBA HRr2 HRX2 HK2 HRr HRX HK hY hYX hYr HA
  go_wp2_with fail
  clear c0 f0
  try rw [← HYE.out]
  generalize (W.setCell ⟨r, 0, none⟩ (.string ⟨#[0]⟩)).alloc (.cells #[.slice none 0 0, .slice none 0 0] 25) = V at HRr3 HRX3 HRY3 HK3 ⊢
  clear HYE
  refine (onum_ok r ⟨#[0]⟩ 32 0 1 (by kernel_rfl) (by decide) (by decide) (by decide) (by unfold maxLen; decide) _ HRr3.out).mono ?_
  rintro e u ⟨rfl, hr, hk⟩
  have HRr4 : Hid (RO u r ⟨#[]⟩) := Lib.hid hr
  have HRX4 := Lib.hid (HRX3.out.kept hk HXr.out)
  have HRY4 := Lib.hid (HRY3.out.kept hk HYr.out)
  have HK4 := Lib.hid (HK3.out.trans' hk)
  clear hr hk HRr3 HRX3 HRY3 HK3
  go_wp2
  refine wp_loop_rounds 1 ?_
  rw [rounds_succ]
  go_wp2_with fail
  refine (onum_bad r ⟨#[]⟩ 128 0 0 9 (by kernel_rfl) (by decide) (by unfold maxLen; decide) _ HRr4.out).mono ?_
  rintro e u2 ⟨rfl, hk⟩
  have HK5 := Lib.hid (HK4.out.trans' hk)
  clear hk HRr4 HRX4 HRY4 HK4
  go_wp2
  exact ⟨rfl, rfl, HK5.out⟩
open Go.ChangeShapes Go.WideShapes Go.Deep Go.RowKit

abbrev oset (u : World) (B : Nat) : World := (u.setCell ⟨B, 0, none⟩ (.slice none 0 0)).setCell ⟨B, 1, none⟩ (.slice none 0 0)
theorem oset_rb {u : World} {B : Nat} {v0 v1 : Value} (h : RB u B #[v0, v1] 25) : RB (oset u B) B #[.slice none 0 0, .slice none 0 0] 25 := by
  have h0 : RB (u.setCell ⟨B, 0, none⟩ (.slice none 0 0)) B #[.slice none 0 0, v1] 25 := h.set (j := 0) _
  have h1 : RB (oset u B) B #[.slice none 0 0, .slice none 0 0] 25 := h0.set (j := 1) _
  exact h1
theorem oset_other {u : World} {B C : Nat} (h : C ≠ B) : (oset u B).heap[C]? = u.heap[C]? := by unfold oset; rw [hother h, hother h]
theorem oset_below {w u : World} {B X : Nat} (h : Below X w u) (hB : X ≤ B) : Below X w (oset u B) := (h.setCell (p := ⟨B, 0, none⟩) hB _).setCell (p := ⟨B, 1, none⟩) hB _
set_option maxHeartbeats 1000000 in
theorem gcatch (B C : Nat) (v0 v1 : Value) (y : Int) (u : TypeId) (pv : Value) (older : List PanicEntry) (w : World) (h1 : RB w B #[v0, v1] 25) (h2 : RB w C #[.int .i64 y] 28) (hBC : B ≠ C) :
    CallsD Tryz.prog 63 #[.pointer (some ⟨B, 0, none⟩), .pointer (some ⟨C, 0, none⟩)] (.panicking ({ v := .iface u pv, recovered := false } :: older)) w fun e u' w' =>
      e = .returned (.tuple #[]) ∧ u' = .panicking ({ v := .iface u pv, recovered := true } :: older) ∧ w' = (oset w B).setCell ⟨C, 0, none⟩ (.int .i64 3) := by
  refine callsD_of_wpS Tryz.func63 rfl fun c₀ cs hu => ?_
  apply wpS_seq
  apply wpS_region
  simp [wpOpsS, go_sem, recoverD, hu, Tryz.ntmps63, Exit.thenS]
  refine wpS_cond (t := true) (by simp [Act.eval, Array.replicate]) ?_
  simp only [if_true]
  have c0 : w.cell? ⟨B, 0, none⟩ = some v0 := h1.cell
  have c1 : w.cell? ⟨B, 1, none⟩ = some v1 := h1.cell
  have q0 : w.frozen? ⟨B, 0, none⟩ = false := h1.frozen
  have q1 : w.frozen? ⟨B, 1, none⟩ = false := h1.frozen
  have e0 : w.cell? ⟨C, 0, none⟩ = some (.int .i64 y) := h2.cell
  have e1 : w.frozen? ⟨C, 0, none⟩ = false := h2.frozen
  refine wpS_of_wp ?_
  go_wp2
  cases c₀
  simp_all [bodyPostS, results, Tryz.results63]
theorem gidle (B C : Nat) (w : World) : CallsD Tryz.prog 63 #[.pointer (some ⟨B, 0, none⟩), .pointer (some ⟨C, 0, none⟩)] .returning w fun e u' w' => e = .returned (.tuple #[]) ∧ u' = .returning ∧ w' = w := by
  refine callsD_of_wpS Tryz.func63 rfl fun c₀ cs hu => ?_
  apply wpS_seq
  apply wpS_region
  simp [wpOpsS, go_sem, recoverD, hu, Tryz.ntmps63, Exit.thenS]
  refine wpS_cond (t := false) (by simp [Act.eval, Array.replicate]) ?_
  simp only [Bool.false_eq_true, if_false]
  refine wpS_of_wp (wp_skip ?_)
  cases c₀
  simp_all [bodyPostS, results, Tryz.results63]
structure GSt (w u : World) (B : Nat) (D : ByteArray) : Prop where
  o : RB u B #[.slice none 0 0, .slice none 0 0] 25
  e : RB u (B + 1) #[.int .i64 0] 28
  r : RO u (B + 2) D
  k : Below w.heap.size w u
  b : B = w.heap.size
theorem GSt.mk0 (w : World) (D : ByteArray) : GSt w (((w.alloc (.cells #[.slice none 0 0, .slice none 0 0] 25)).alloc (.cells #[.int .i64 0] 28)).alloc (.cells #[.string D] 107)) w.heap.size D := by
  have s1 : (w.alloc (.cells #[.slice none 0 0, .slice none 0 0] 25)).heap.size = w.heap.size + 1 := World.size_alloc _ _
  have s2 : ((w.alloc (.cells #[.slice none 0 0, .slice none 0 0] 25)).alloc (.cells #[.int .i64 0] 28)).heap.size = w.heap.size + 2 := by rw [World.size_alloc, s1]
  refine ⟨?_, ?_, ?_, (((Below.refl _ w).alloc (Nat.le_refl _) _).alloc (by rw [s1]; omega) _).alloc (by rw [s2]; omega) _, rfl⟩
  · unfold RB
    rw [Below.heap_alloc _ _ _ (by rw [s2]; omega), Below.heap_alloc _ _ _ (by rw [s1]; omega)]; exact (MapKept.heap_alloc _ _).1
  · unfold RB
    rw [Below.heap_alloc _ _ _ (by rw [s2]; omega), ← s1]; exact (MapKept.heap_alloc _ _).1
  · show RB _ _ _ _
    unfold RB
    rw [← s2]; exact (MapKept.heap_alloc _ _).1
theorem GSt.call {w u u' : World} {B : Nat} {D D' : ByteArray} (h : GSt w u B D) (hR : RO u' (B + 2) D') (hK : KP (B + 2) u u') : GSt w u' B D' :=
  ⟨h.o.kept hK (by omega), h.e.kept hK (by omega), hR, KP.to_below h.k hK (by rw [h.b]; omega), h.b⟩
theorem GSt.next {w u u' : World} {B : Nat} {D : ByteArray} (h : GSt w u B D) (hb : Below u.heap.size u u') : GSt w u' B D := h.call (h.r.next hb) (KP.of_below hb)
theorem GSt.put {w u : World} {B : Nat} {D : ByteArray} (h : GSt w u B D) : GSt w (oset u B) B D :=
  ⟨oset_rb h.o, (oset_other (by omega)).trans h.e, (oset_other (by omega)).trans h.r, oset_below h.k (by rw [h.b]; exact Nat.le_refl _), h.b⟩
set_option maxRecDepth 100000 in
set_option maxHeartbeats 4000000 in
theorem Get_bad (w : World) (hT : TabP w) : Calls Tryz.prog 19 #[.string ⟨#[67, 76, 69, 65, 84, 1, 0]⟩] w (RetB (.tuple #[.agg #[.slice none 0 0, .slice none 0 0], .int .i64 3]) w) := by
  have hmf : ∀ (fn : Fn) (first cap : Array Value) (w : World), (Instr.makeFunc fn first cap).run Tryz.prog w = .ok (.func fn first cap) w := fun _ _ _ _ => rfl
  have hE : ∀ w, (zeroValue 28).run Tryz.prog w = .ok (.int .i64 0) w := fun w => by kernel_rfl
  have hZ : ∀ w, (zeroValue 25).run Tryz.prog w = .ok (.agg #[.slice none 0 0, .slice none 0 0]) w := fun w => by kernel_rfl
  obtain ⟨B, hB⟩ : ∃ B, B = w.heap.size := ⟨_, rfl⟩
  have HBE := Lib.hid hB
  have h0 := Lib.hid (GSt.mk0 w ⟨#[67, 76, 69, 65, 84, 1, 0]⟩)
  rw [← hB] at h0
  have HT := Lib.hid hT
  clear hT
  go_enter_defers Tryz.func19, Tryz.ntmps19
  go_wp2_with fail
  rw [← hB]
  clear hB
  try rw [show B + 1 + 1 = B + 2 from rfl]
  change Hid (GSt w (((w.alloc (.cells #[.slice none 0 0, .slice none 0 0] 25)).alloc (.cells #[.int .i64 0] 28)).alloc (.cells #[.string ⟨#[67, 76, 69, 65, 84, 1, 0]⟩] 107)) B ⟨#[67, 76, 69, 65, 84, 1, 0]⟩) at h0
  generalize ((w.alloc (.cells #[.slice none 0 0, .slice none 0 0] 25)).alloc (.cells #[.int .i64 0] 28)).alloc (.cells #[.string ⟨#[67, 76, 69, 65, 84, 1, 0]⟩] 107) = W0 at h0 ⊢
  refine (object_bad (B + 2) _ h0.out.r).mono ?_
  rintro e u1 ⟨rfl, hK⟩
  have HO := Lib.hid (h0.out.o.kept hK (by omega))
  have HE := Lib.hid (h0.out.e.kept hK (by omega))
  have HB5 := Lib.hid (KP.to_below h0.out.k hK (by rw [h0.out.b]; omega))
  clear hK
  refine leaves_cons (f := 63) (args := #[.pointer (some ⟨B, 0, none⟩), .pointer (some ⟨B + 1, 0, none⟩)]) (by simp) (by simp [go_sem]) ?_
  refine (gcatch B (B + 1) _ _ 0 _ _ [] _ HO.out HE.out (by omega)).mono ?_
  rintro e u' w4 ⟨rfl, rfl, hw4⟩
  have hB4 : RB w4 B #[.slice none 0 0, .slice none 0 0] 25 := by rw [hw4]; exact (hother (by omega)).trans (oset_rb HO.out)
  have hC4 : RB w4 (B + 1) #[.int .i64 3] 28 := by rw [hw4]; exact RB.set (j := 0) ((oset_other (by omega)).trans HE.out) _
  have hb4 : Below w.heap.size w w4 := by
    rw [hw4]
    exact (oset_below HB5.out (by rw [HBE.out]; exact Nat.le_refl _)).setCell (p := ⟨B + 1, 0, none⟩) (by show w.heap.size ≤ B + 1; rw [HBE.out]; omega) _
  have b0 : w4.cell? ⟨B, 0, none⟩ = some (.slice none 0 0) := hB4.cell
  have b1 : w4.cell? ⟨B, 1, none⟩ = some (.slice none 0 0) := hB4.cell
  have d0 : w4.cell? ⟨B + 1, 0, none⟩ = some (.int .i64 3) := hC4.cell
  simp [Leaves, settle, results, Tryz.results19, go_sem, b0, b1, d0]
  exact ⟨rfl, hb4⟩
set_option maxRecDepth 100000 in
set_option maxHeartbeats 4000000 in
theorem Get_two (w : World) (hT : TabP w) : Calls Tryz.prog 19 #[.string ⟨#[67, 76, 69, 65, 84, 1, 0, 0]⟩] w (RetB (.tuple #[.agg #[.slice none 0 0, .slice none 0 0], .int .i64 0]) w) := by
  have HIs : Hid (∀ u, TabP u → Calls Tryz.prog 24 #[.agg #[.slice none 0 0, .slice none 0 0]] u (RetB (.bool true) u)) := Lib.hid fun u hu => oIs_any none 0 0 [] none 0 0 [] (by unfold maxLen; decide) (by unfold maxLen; decide) u (SL.nil _ _ _) (by intro m hm; cases hm) (by simp) (SL.nil _ _ _) (by simp) hu
  have hmf : ∀ (fn : Fn) (first cap : Array Value) (w : World), (Instr.makeFunc fn first cap).run Tryz.prog w = .ok (.func fn first cap) w := fun _ _ _ _ => rfl
  have hE : ∀ w, (zeroValue 28).run Tryz.prog w = .ok (.int .i64 0) w := fun w => by kernel_rfl
  have hZ : ∀ w, (zeroValue 25).run Tryz.prog w = .ok (.agg #[.slice none 0 0, .slice none 0 0]) w := fun w => by kernel_rfl
  obtain ⟨B, hB⟩ : ∃ B, B = w.heap.size := ⟨_, rfl⟩
  have HBE := Lib.hid hB
  have h0 := Lib.hid (GSt.mk0 w ⟨#[67, 76, 69, 65, 84, 1, 0, 0]⟩)
  rw [← hB] at h0
  have HT := Lib.hid hT
  clear hT
  go_enter_defers Tryz.func19, Tryz.ntmps19
  go_wp2_with fail
  rw [← hB]
  clear hB
  try rw [show B + 1 + 1 = B + 2 from rfl]
  change Hid (GSt w (((w.alloc (.cells #[.slice none 0 0, .slice none 0 0] 25)).alloc (.cells #[.int .i64 0] 28)).alloc (.cells #[.string ⟨#[67, 76, 69, 65, 84, 1, 0, 0]⟩] 107)) B ⟨#[67, 76, 69, 65, 84, 1, 0, 0]⟩) at h0
  generalize ((w.alloc (.cells #[.slice none 0 0, .slice none 0 0] 25)).alloc (.cells #[.int .i64 0] 28)).alloc (.cells #[.string ⟨#[67, 76, 69, 65, 84, 1, 0, 0]⟩] 107) = W0 at h0 ⊢
  refine (object_two (B + 2) _ h0.out.r).mono ?_
  rintro e u1 ⟨rfl, hR, hK⟩
  have H1 := Lib.hid (h0.out.call hR hK)
  have H2 := Lib.hid (h0.out.call hR hK).put
  clear hR hK h0
  have x0 : u1.cell? ⟨B, 0, none⟩ = some (.slice none 0 0) := H1.out.o.cell
  have x1 : u1.cell? ⟨B, 1, none⟩ = some (.slice none 0 0) := H1.out.o.cell
  have xf0 : u1.frozen? ⟨B, 0, none⟩ = false := H1.out.o.frozen
  have xf1 : u1.frozen? ⟨B, 1, none⟩ = false := H1.out.o.frozen
  have z0 : (oset u1 B).cell? ⟨B + 2, 0, none⟩ = some (.string ⟨#[]⟩) := H2.out.r.cell
  have z1 : (oset u1 B).cell? ⟨B, 0, none⟩ = some (.slice none 0 0) := H2.out.o.cell
  have z2 : (oset u1 B).cell? ⟨B, 1, none⟩ = some (.slice none 0 0) := H2.out.o.cell
  go_wp2_with fail
  refine (HIs.out _ (HT.out.next H2.out.k)).mono ?_
  rintro e u2 ⟨rfl, hb⟩
  have H3 := Lib.hid (H2.out.next hb)
  have H4 := Lib.hid (H2.out.next hb).put
  clear hb x0 x1 xf0 xf1 z0 z1 z2
  have x0 : u2.cell? ⟨B, 0, none⟩ = some (.slice none 0 0) := H3.out.o.cell
  have x1 : u2.cell? ⟨B, 1, none⟩ = some (.slice none 0 0) := H3.out.o.cell
  have xf0 : u2.frozen? ⟨B, 0, none⟩ = false := H3.out.o.frozen
  have xf1 : u2.frozen? ⟨B, 1, none⟩ = false := H3.out.o.frozen
  have z0 : (oset u2 B).cell? ⟨B + 1, 0, none⟩ = some (.int .i64 0) := H4.out.e.cell
  have z1 : (oset u2 B).frozen? ⟨B + 1, 0, none⟩ = false := H4.out.e.frozen
  go_wp2
  refine leaves_cons (f := 63) (args := #[.pointer (some ⟨B, 0, none⟩), .pointer (some ⟨B + 1, 0, none⟩)]) (by simp) (by simp [go_sem]) ?_
  refine (gidle B (B + 1) _).mono ?_
  rintro e u' w4 ⟨rfl, rfl, hw4⟩
  have hB4 : RB w4 B #[.slice none 0 0, .slice none 0 0] 25 := by rw [hw4]; exact (hother (by omega)).trans H4.out.o
  have hC4 : RB w4 (B + 1) #[.int .i64 0] 28 := by rw [hw4]; exact RB.set (j := 0) H4.out.e _
  have hb4 : Below w.heap.size w w4 := by
    rw [hw4]
    exact H4.out.k.setCell (p := ⟨B + 1, 0, none⟩) (by show w.heap.size ≤ B + 1; rw [HBE.out]; omega) _
  have b0 : w4.cell? ⟨B, 0, none⟩ = some (.slice none 0 0) := hB4.cell
  have b1 : w4.cell? ⟨B, 1, none⟩ = some (.slice none 0 0) := hB4.cell
  have d0 : w4.cell? ⟨B + 1, 0, none⟩ = some (.int .i64 0) := hC4.cell
  simp [Leaves, settle, results, Tryz.results19, go_sem, b0, b1, d0]
  exact ⟨rfl, hb4⟩
open Go.ChangeShapes Go.WideShapes Go.Deep Go.RowKit

theorem he1 : putR ⟨[], []⟩ = ([67, 76, 69, 65, 84, 1, 0, 0], 0) := by kernel_rfl
theorem he2 : putR ⟨[], [(⟨[], 1, -1, 0⟩ : Sy)]⟩ = ([], 1) := by kernel_rfl
theorem he3 : findL ⟨[], [(⟨[97], 2, -1, 0⟩ : Sy)]⟩ [97] = (0, true) := by kernel_rfl
theorem he4 : isO ⟨[], [(⟨[97], 2, -1, 0⟩ : Sy)]⟩ = true := by kernel_rfl
set_option maxRecDepth 100000 in
set_option maxHeartbeats 2000000 in
theorem held_is (w : World) (hT : TabP w) : Calls Tryz.prog 23 #[] w (RetB (.bool true) w) := by
  have H1 : Hid (∀ u, TabP u → Calls Tryz.prog 17 #[.agg #[.slice none 0 0, .slice none 0 0]] u (RetB (.tuple #[.string ⟨#[67, 76, 69, 65, 84, 1, 0, 0]⟩, .int .i64 0]) u)) := Lib.hid fun u hu => by
    have := oPut_any none 0 0 [] none 0 0 [] (by unfold maxLen; decide) (by unfold maxLen; decide) u (SL.nil _ _ _) (by intro m hm; cases hm) (by simp) (SL.nil _ _ _) (by simp) hu
    rw [List.map_nil, he1] at this
    exact this
  have H2 : Hid (∀ u, TabP u → Calls Tryz.prog 19 #[.string ⟨#[67, 76, 69, 65, 84, 1, 0, 0]⟩] u (RetB (.tuple #[.agg #[.slice none 0 0, .slice none 0 0], .int .i64 0]) u)) := Lib.hid fun u hu => Get_two u hu
  have H3 : Hid (∀ u, TabP u → Calls Tryz.prog 19 #[.string ⟨#[67, 76, 69, 65, 84, 1, 0]⟩] u (RetB (.tuple #[.agg #[.slice none 0 0, .slice none 0 0], .int .i64 3]) u)) := Lib.hid fun u hu => Get_bad u hu
  have H4 : Hid (∀ (u : World) (ad : Option Addr), TabP u → SL syC 4 u u.heap.size ad 1 [(⟨[], 1, -1, 0⟩ : Sy)] → Calls Tryz.prog 17 #[.agg #[.slice none 0 0, .slice ad 1 1]] u (RetB (.tuple #[.string ⟨#[]⟩, .int .i64 1]) u)) := Lib.hid fun u ad hu hs => by
    have := oPut_any none 0 0 [] ad 1 1 [(⟨[], 1, -1, 0⟩ : Sy)] (by unfold maxLen; decide) (by unfold maxLen; decide) u (SL.nil _ _ _) (by intro m hm; cases hm) (by simp) hs (by intro s hs; rw [List.mem_singleton] at hs; subst hs; exact ⟨by unfold maxLen; decide, by constructor <;> decide, by constructor <;> decide, by constructor <;> decide⟩) hu
    rw [List.map_nil, he2] at this
    exact this
  have H5 : Hid (∀ (u : World) (ad : Option Addr), TabP u → SL syC 4 u u.heap.size ad 1 [(⟨[97], 2, -1, 0⟩ : Sy)] → Calls Tryz.prog 21 #[.agg #[.slice none 0 0, .slice ad 1 1], .string ⟨#[97]⟩] u (RetB (.tuple #[.int .i64 0, .bool true]) u)) := Lib.hid fun u ad hu hs => by
    have := oFind_any none 0 0 [] ad 1 1 [(⟨[97], 2, -1, 0⟩ : Sy)] (by unfold maxLen; decide) (by unfold maxLen; decide) u (SL.nil _ _ _) (by intro m hm; cases hm) (by simp) hs (by intro s hs; rw [List.mem_singleton] at hs; subst hs; exact ⟨by unfold maxLen; decide, by constructor <;> decide, by constructor <;> decide, by constructor <;> decide⟩) hu ⟨#[97]⟩
    rw [List.map_nil, show (⟨#[97]⟩ : ByteArray).data.toList = [97] from rfl, he3] at this
    exact this
  have H6 : Hid (∀ (u : World) (ad : Option Addr), TabP u → SL syC 4 u u.heap.size ad 1 [(⟨[97], 2, -1, 0⟩ : Sy)] → Calls Tryz.prog 24 #[.agg #[.slice none 0 0, .slice ad 1 1]] u (RetB (.bool true) u)) := Lib.hid fun u ad hu hs => by
    have := oIs_any none 0 0 [] ad 1 1 [(⟨[97], 2, -1, 0⟩ : Sy)] (by unfold maxLen; decide) (by unfold maxLen; decide) u (SL.nil _ _ _) (by intro m hm; cases hm) (by simp) hs (by intro s hs; rw [List.mem_singleton] at hs; subst hs; exact ⟨by unfold maxLen; decide, by constructor <;> decide, by constructor <;> decide, by constructor <;> decide⟩) hu
    rw [List.map_nil, he4] at this
    exact this
  have HT := Lib.hid hT
  have HB : Hid (Below w.heap.size w w) := Lib.hid (Below.refl _ w)
  clear hT
  go_enter Tryz.func23, Tryz.ntmps23
  go_wp2_with fail
  refine (H1.out _ (HT.out.next HB.out)).mono ?_
  rintro e u ⟨rfl, hb⟩
  replace HB := Lib.hid (after HB.out hb)
  clear hb
  go_wp2_with fail
  refine (H2.out _ (HT.out.next HB.out)).mono ?_
  rintro e u ⟨rfl, hb⟩
  replace HB := Lib.hid (after HB.out hb)
  clear hb
  obtain ⟨X, hX⟩ : ∃ X, X = u.heap.size := ⟨_, rfl⟩
  have HEX := Lib.hid hX
  have HA : Hid (Below u.heap.size u (u.alloc (.cells #[.slice none 0 0, .slice none 0 0] 25))) := Lib.hid ((Below.refl _ u).alloc (Nat.le_refl _) _)
  have HRX : Hid (RB (u.alloc (.cells #[.slice none 0 0, .slice none 0 0] 25)) X #[.slice none 0 0, .slice none 0 0] 25) := Lib.hid (by rw [hX]; exact (MapKept.heap_alloc u _).1)
  clear hX
  go_wp2_with fail
  try rw [← HEX.out]
  generalize (u.alloc (.cells #[.slice none 0 0, .slice none 0 0] 25)) = W at HA HRX ⊢
  replace HB : Hid (Below w.heap.size w W) := Lib.hid (after HB.out HA.out)
  clear HA HEX
  refine (H3.out _ (HT.out.next HB.out)).mono ?_
  rintro e u ⟨rfl, hb⟩
  replace HB := Lib.hid (after HB.out hb)
  replace HRX := Lib.hid (HRX.out.next hb)
  clear hb
  obtain ⟨H, hH⟩ : ∃ H, H = u.heap.size := ⟨_, rfl⟩
  have HH := Lib.hid hH
  have HA : Hid (Below u.heap.size u ((u.alloc (.cells #[.slice none 0 0, .slice none 0 0] 25)).alloc (.cells #[.string ⟨#[]⟩, .int .i64 1, .int .i64 (-1), .int .i64 0] 56))) := Lib.hid (((Below.refl _ u).alloc (Nat.le_refl _) _).alloc (by rw [World.size_alloc]; omega) _)
  have HRY : Hid (RB ((u.alloc (.cells #[.slice none 0 0, .slice none 0 0] 25)).alloc (.cells #[.string ⟨#[]⟩, .int .i64 1, .int .i64 (-1), .int .i64 0] 56)) H #[.slice none 0 0, .slice none 0 0] 25) := Lib.hid (by
    have : RB (u.alloc (.cells #[.slice none 0 0, .slice none 0 0] 25)) H #[.slice none 0 0, .slice none 0 0] 25 := by rw [hH]; exact (MapKept.heap_alloc u _).1
    exact this.next ((Below.refl _ _).alloc (Nat.le_refl _) _))
  have HL : Hid (SL syC 4 ((u.alloc (.cells #[.slice none 0 0, .slice none 0 0] 25)).alloc (.cells #[.string ⟨#[]⟩, .int .i64 1, .int .i64 (-1), .int .i64 0] 56)) ((u.alloc (.cells #[.slice none 0 0, .slice none 0 0] 25)).alloc (.cells #[.string ⟨#[]⟩, .int .i64 1, .int .i64 (-1), .int .i64 0] 56)).heap.size (some ⟨H + 1, 0, none⟩) 1 [(⟨[], 1, -1, 0⟩ : Sy)]) := Lib.hid (by
    rw [hH, World.size_alloc (u.alloc (.cells #[.slice none 0 0, .slice none 0 0] 25)), ← World.size_alloc u]; exact SL.lit (u.alloc (.cells #[.slice none 0 0, .slice none 0 0] 25)) _ [(⟨[], 1, -1, 0⟩ : Sy)] sy_len (by decide) _ rfl 1 rfl)
  replace HRX := Lib.hid (HRX.out.next HA.out)
  clear hH
  go_wp2_with fail
  try rw [← HH.out]
  generalize ((u.alloc (.cells #[.slice none 0 0, .slice none 0 0] 25)).alloc (.cells #[.string ⟨#[]⟩, .int .i64 1, .int .i64 (-1), .int .i64 0] 56)) = W at HA HRX HRY HL ⊢
  replace HB : Hid (Below w.heap.size w W) := Lib.hid (after HB.out HA.out)
  clear HA HH
  obtain ⟨Y, hY⟩ : ∃ Y, Y = H := ⟨_, rfl⟩
  rw [← hY] at HRY
  try rw [← hY]
  try rw [← hY] at HL
  clear hY
  refine (H4.out _ _ (HT.out.next HB.out) HL.out).mono ?_
  rintro e u ⟨rfl, hb⟩
  replace HB := Lib.hid (after HB.out hb)
  replace HRX := Lib.hid (HRX.out.next hb)
  replace HRY := Lib.hid (HRY.out.next hb)
  clear hb
  clear HL
  obtain ⟨H2, hH⟩ : ∃ H2, H2 = u.heap.size := ⟨_, rfl⟩
  have HH := Lib.hid hH
  have HA : Hid (Below u.heap.size u ((u.alloc (.cells #[.string ⟨#[97]⟩, .int .i64 2, .int .i64 (-1), .int .i64 0] 56)).alloc (.cells #[.slice none 0 0, .slice (some ⟨H2, 0, none⟩) 1 1] 25))) := Lib.hid (((Below.refl _ u).alloc (Nat.le_refl _) _).alloc (by rw [World.size_alloc]; omega) _)
  have HRP : Hid (RB ((u.alloc (.cells #[.string ⟨#[97]⟩, .int .i64 2, .int .i64 (-1), .int .i64 0] 56)).alloc (.cells #[.slice none 0 0, .slice (some ⟨H2, 0, none⟩) 1 1] 25)) (H2 + 1) #[.slice none 0 0, .slice (some ⟨H2, 0, none⟩) 1 1] 25) := Lib.hid (by unfold RB; rw [show H2 + 1 = (u.alloc (.cells #[.string ⟨#[97]⟩, .int .i64 2, .int .i64 (-1), .int .i64 0] 56)).heap.size from by rw [World.size_alloc, hH]]; exact (MapKept.heap_alloc _ _).1)
  have HL : Hid (SL syC 4 ((u.alloc (.cells #[.string ⟨#[97]⟩, .int .i64 2, .int .i64 (-1), .int .i64 0] 56)).alloc (.cells #[.slice none 0 0, .slice (some ⟨H2, 0, none⟩) 1 1] 25)) ((u.alloc (.cells #[.string ⟨#[97]⟩, .int .i64 2, .int .i64 (-1), .int .i64 0] 56)).alloc (.cells #[.slice none 0 0, .slice (some ⟨H2, 0, none⟩) 1 1] 25)).heap.size (some ⟨H2, 0, none⟩) 1 [(⟨[97], 2, -1, 0⟩ : Sy)]) := Lib.hid (by
    have : SL syC 4 (u.alloc (.cells #[.string ⟨#[97]⟩, .int .i64 2, .int .i64 (-1), .int .i64 0] 56)) (u.alloc (.cells #[.string ⟨#[97]⟩, .int .i64 2, .int .i64 (-1), .int .i64 0] 56)).heap.size (some ⟨H2, 0, none⟩) 1 [(⟨[97], 2, -1, 0⟩ : Sy)] := by rw [hH, World.size_alloc]; exact SL.lit u _ [(⟨[97], 2, -1, 0⟩ : Sy)] sy_len (by decide) _ rfl 1 rfl
    exact this.next ((Below.refl _ _).alloc (Nat.le_refl _) _))
  replace HRX := Lib.hid (HRX.out.next HA.out)
  replace HRY := Lib.hid (HRY.out.next HA.out)
  have p_0 : ((u.alloc (.cells #[.string ⟨#[97]⟩, .int .i64 2, .int .i64 (-1), .int .i64 0] 56)).alloc (.cells #[.slice none 0 0, .slice (some ⟨H2, 0, none⟩) 1 1] 25)).cell? ⟨H2 + 1, 0, none⟩ = some (.slice none 0 0) := HRP.out.cell
  have p_1 : ((u.alloc (.cells #[.string ⟨#[97]⟩, .int .i64 2, .int .i64 (-1), .int .i64 0] 56)).alloc (.cells #[.slice none 0 0, .slice (some ⟨H2, 0, none⟩) 1 1] 25)).cell? ⟨H2 + 1, 1, none⟩ = some (.slice (some ⟨H2, 0, none⟩) 1 1) := HRP.out.cell
  rw [hH] at p_0 p_1
  clear hH
  go_wp2_with fail
  clear p_0 p_1
  try rw [← HH.out]
  generalize ((u.alloc (.cells #[.string ⟨#[97]⟩, .int .i64 2, .int .i64 (-1), .int .i64 0] 56)).alloc (.cells #[.slice none 0 0, .slice (some ⟨H2, 0, none⟩) 1 1] 25)) = W at HA HRX HRY HRP HL ⊢
  replace HB : Hid (Below w.heap.size w W) := Lib.hid (after HB.out HA.out)
  clear HA HH
  obtain ⟨P, hP⟩ : ∃ P, P = H2 + 1 := ⟨_, rfl⟩
  rw [← hP] at HRP
  try rw [← hP]
  clear hP
  refine (H5.out _ _ (HT.out.next HB.out) HL.out).mono ?_
  rintro e u ⟨rfl, hb⟩
  replace HB := Lib.hid (after HB.out hb)
  replace HRX := Lib.hid (HRX.out.next hb)
  replace HRY := Lib.hid (HRY.out.next hb)
  replace HRP := Lib.hid (HRP.out.next hb)
  replace HL := Lib.hid (HL.out.next hb)
  clear hb
  have x_0 : u.cell? ⟨X, 0, none⟩ = some (.slice none 0 0) := HRX.out.cell
  have x_1 : u.cell? ⟨X, 1, none⟩ = some (.slice none 0 0) := HRX.out.cell
  have p_0 : u.cell? ⟨P, 0, none⟩ = some (.slice none 0 0) := HRP.out.cell
  have p_1 : u.cell? ⟨P, 1, none⟩ = some (.slice (some ⟨H2, 0, none⟩) 1 1) := HRP.out.cell
  go_wp2_with fail
  clear x_0 x_1 p_0 p_1
  refine (H6.out _ _ (HT.out.next HB.out) HL.out).mono ?_
  rintro e u ⟨rfl, hb⟩
  replace HB := Lib.hid (after HB.out hb)
  replace HRX := Lib.hid (HRX.out.next hb)
  replace HRY := Lib.hid (HRY.out.next hb)
  replace HRP := Lib.hid (HRP.out.next hb)
  replace HL := Lib.hid (HL.out.next hb)
  clear hb
  go_wp2
  go_ret
  exact retB_bool rfl HB.out
open Go.ChangeShapes Go.WideShapes Go.Deep Go.RowKit

def SomeB (w : World) (e : Ending) (w' : World) : Prop := ∃ r : Bool, e = .returned (.bool r) ∧ Below w.heap.size w w'
set_option maxRecDepth 100000 in
set_option maxHeartbeats 2000000 in
theorem rOBig_any (a : Option Addr) (n c : Nat) (L : List Ms) (a2 : Option Addr) (n2 c2 : Nat) (l : List Sy) (hn : n ≤ maxLen) (hn2 : n2 ≤ maxLen) (w : World) (hs : SL msC 6 w w.heap.size a n L) (hs2 : SL syC 4 w w.heap.size a2 n2 l) :
    Calls Tryz.prog 15 #[.agg #[.slice a n c, .slice a2 n2 c2]] w (SomeB w) := by
  have HS := Lib.hid hs
  have HS2 := Lib.hid hs2
  have HLn := Lib.hid hs.len
  have HLn2 := Lib.hid hs2.len
  have hni : (n : Int) ≤ 9223372036854775807 := by unfold maxLen at hn; omega
  have hni2 : (n2 : Int) ≤ 9223372036854775807 := by unfold maxLen at hn2; omega
  obtain ⟨X, hX⟩ : ∃ X, X = w.heap.size := ⟨_, rfl⟩
  have HXE := Lib.hid hX
  have HA : Hid (Below w.heap.size w (w.alloc (.cells #[.slice a n c, .slice a2 n2 c2] 25))) := Lib.hid ((Below.refl _ w).alloc (Nat.le_refl _) _)
  have HRX0 : Hid (RB (w.alloc (.cells #[.slice a n c, .slice a2 n2 c2] 25)) X #[.slice a n c, .slice a2 n2 c2] 25) := Lib.hid (by rw [hX]; exact (MapKept.heap_alloc w _).1)
  clear hs hs2 hX
  go_enter Tryz.func15, Tryz.ntmps15
  go_wp2
  try rw [← HXE.out]
  generalize (w.alloc (.cells #[.slice a n c, .slice a2 n2 c2] 25)) = W at HA HRX0 ⊢
  go_loopw [3] (fun i wr => ∃ (k : Nat) (wx : World), wx = wr ∧ k ≤ n ∧ i = .int .i64 k ∧ Below w.heap.size w wx ∧ RB wx X #[.slice a n c, .slice a2 n2 c2] 25) (fun i _ => n - (intOf i).toNat)
  case atStart => exact ⟨0, _, rfl, by omega, rfl, HA.out, HRX0.out⟩
  case round =>
    clear HA HRX0
    obtain ⟨k, wx, rfl, hk, rfl, hb, hrx⟩ := hrel
    have HB := Lib.hid hb
    have HRX := Lib.hid hrx
    clear hb hrx
    have x0 : wx.cell? ⟨X, 0, none⟩ = some (.slice a n c) := HRX.out.cell
    have x1 : wx.cell? ⟨X, 1, none⟩ = some (.slice a2 n2 c2) := HRX.out.cell
    by_cases hgo : k < n ∧ n ≤ 40
    · obtain ⟨hlt, h40⟩ := hgo
      have hlti : (k : Int) < (n : Int) := by omega
      have h40i : (n : Int) ≤ 40 := by omega
      have hk1 : k < L.length := by have := HLn.out; omega
      obtain ⟨bb, off, rfl, hB, hc⟩ := (HS.out.next HB.out).cells (HS.out.ne hlt)
      obtain ⟨c0, c1, c2', c3, c4, c5⟩ := ms_cells (fun j hj => hc k hk1 j hj)
      generalize (L[k]'hk1) = ms at c0 c1 c2' c3 c4 c5
      clear hc
      obtain ⟨⟨nm, ki, kp, al, dt, rl⟩, ad, cp⟩ := ms
      obtain ⟨N, hN⟩ : ∃ N : ByteArray, N = ⟨nm.toArray⟩ := ⟨_, rfl⟩
      obtain ⟨B, hBB⟩ : ∃ B : ByteArray, B = ⟨dt.toArray⟩ := ⟨_, rfl⟩
      obtain ⟨nr, hnr⟩ : ∃ nr, nr = rl.length := ⟨_, rfl⟩
      simp only [] at c0 c1 c2' c3 c4 c5
      rw [← hN] at c0
      rw [← hBB] at c4
      rw [← hnr] at c5
      clear hN hBB hnr hB
      have HBg := Lib.hid (fun u => rBig_any N B ki kp al ad nr cp u)
      generalize bigS B.size nr N.size = bg at HBg
      cases bg
      · go_wp2_with fail
        refine (HBg.out _).mono ?_
        rintro e u ⟨rfl, hb⟩
        have HB2 := Lib.hid (after HB.out hb)
        replace HRX := Lib.hid (HRX.out.next hb)
        clear hb
        go_wp2
        go_roundw
        case rel => exact ⟨k + 1, _, rfl, by omega, by go_num, HB2.out, HRX.out⟩
        case measure => simp [intOf]; omega
      · go_wp2_with fail
        refine (HBg.out _).mono ?_
        rintro e u ⟨rfl, hb⟩
        have HB2 := Lib.hid (after HB.out hb)
        clear hb
        go_wp2
        go_ret
        exact ⟨_, rfl, HB2.out⟩
    · have HBB := Lib.hid HB.out
      have HRX1 := Lib.hid HRX.out
      have hcs : ¬ (k : Int) < (n : Int) ∨ ((k : Int) < (n : Int) ∧ ¬ (n : Int) ≤ 40) := by omega
      clear hgo
      rcases hcs with hn1 | ⟨hn1, hn3⟩
      all_goals
        go_wp2
        clear x0 x1
        go_loopw [4] (fun i wr => ∃ (k : Nat) (wx : World), wx = wr ∧ k ≤ n2 ∧ i = .int .i64 k ∧ Below w.heap.size w wx ∧ RB wx X #[.slice a n c, .slice a2 n2 c2] 25) (fun i _ => n2 - (intOf i).toNat)
        case atStart => exact ⟨0, _, rfl, by omega, rfl, HBB.out, HRX1.out⟩
        case round =>
          clear HB HRX HBB HRX1
          obtain ⟨q, wy, rfl, hq, rfl, hb, hrx⟩ := hrel
          have HB := Lib.hid hb
          have HRX := Lib.hid hrx
          clear hb hrx
          have x0 : wy.cell? ⟨X, 0, none⟩ = some (.slice a n c) := HRX.out.cell
          have x1 : wy.cell? ⟨X, 1, none⟩ = some (.slice a2 n2 c2) := HRX.out.cell
          by_cases hgo : q < n2 ∧ n2 ≤ 140
          · obtain ⟨hlt, h40⟩ := hgo
            have hlti : (q : Int) < (n2 : Int) := by omega
            have h40i : (n2 : Int) ≤ 140 := by omega
            have hk1 : q < l.length := by have := HLn2.out; omega
            obtain ⟨bb, off, rfl, hB, hc⟩ := (HS2.out.next HB.out).cells (HS2.out.ne hlt)
            obtain ⟨c0, c1, c2', c3⟩ := sy_cells (fun j hj => hc q hk1 j hj)
            generalize (l[q]'hk1) = sy at c0 c1 c2' c3
            clear hc
            obtain ⟨nm, bi, se, of⟩ := sy
            obtain ⟨N, hN⟩ : ∃ N : ByteArray, N = ⟨nm.toArray⟩ := ⟨_, rfl⟩
            simp only [] at c0 c1 c2' c3
            rw [← hN] at c0
            clear hN hB
            by_cases hbig : (100 : Int) < (N.size : Int)
            · go_wp2
              go_ret
              exact ⟨_, rfl, HB.out⟩
            · go_wp2
              go_roundw
              case rel => exact ⟨q + 1, _, rfl, by omega, by go_num, HB.out, HRX.out⟩
              case measure => simp [intOf]; omega
          · have hcs : ¬ (q : Int) < (n2 : Int) ∨ ((q : Int) < (n2 : Int) ∧ ¬ (n2 : Int) ≤ 140) := by omega
            clear hgo
            rcases hcs with hm1 | ⟨hm1, hm3⟩
            all_goals
              by_cases h41 : (40 : Int) < (n : Int)
              · first | (exfalso; omega) | (go_wp2; go_ret; exact ⟨_, rfl, HB.out⟩)
              · by_cases h141 : (140 : Int) < (n2 : Int)
                · first | (exfalso; omega) | (go_wp2; go_ret; exact ⟨_, rfl, HB.out⟩)
                · first | (exfalso; omega) | (go_wp2; go_ret; exact ⟨_, rfl, HB.out⟩)
end Go.Proofs.YtkdhomofagjcmaaGreatDoor
