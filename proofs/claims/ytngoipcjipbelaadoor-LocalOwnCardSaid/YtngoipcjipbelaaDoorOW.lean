/- operand's reference: Same of two rows of one list. -/
import Derived.Test.YtngoipcjipbelaaDoorOV
import Derived.BigQuiet
namespace Go.Proofs.YtngoipcjipbelaaDoor
set_option linter.unusedVariables false
set_option linter.unusedSimpArgs false
open Go.ChangeShapes Go.WideShapes Go.Deep Go.RowKit

theorem po_cells {w : World} {b off k : Nat} {o : Po} (hc : ∀ j, j < 7 → w.cell? ⟨b, off + k * 7 + j, none⟩ = (poC o)[j]?) :
    w.cell? ⟨b, off + k * 7, none⟩ = some (.int .i64 o.kind) ∧ w.cell? ⟨b, off + k * 7 + 1, none⟩ = some (.int .i64 o.reg) ∧ w.cell? ⟨b, off + k * 7 + 2, none⟩ = some (.bool o.stack) ∧ w.cell? ⟨b, off + k * 7 + 3, none⟩ = some (.bool o.minus) ∧
    w.cell? ⟨b, off + k * 7 + 4, none⟩ = some (.int .u64 o.v) ∧ w.cell? ⟨b, off + k * 7 + 5, none⟩ = some (.string ⟨o.sym.toArray⟩) ∧ w.cell? ⟨b, off + k * 7 + 6, none⟩ = some (.int .i64 o.add) :=
  ⟨hc 0 (by omega), hc 1 (by omega), hc 2 (by omega), hc 3 (by omega), hc 4 (by omega), hc 5 (by omega), hc 6 (by omega)⟩
set_option maxRecDepth 100000 in
set_option maxHeartbeats 4000000 in
theorem Same_eq {w : World} {a a' : Option Addr} {c c' : Nat} {os : List Po} (h1 : SL poC 7 w w.heap.size a os.length os) (h2 : SL poC 7 w w.heap.size a' os.length os) (hn : os.length ≤ 1000000) :
    Calls Tryd.prog 28 #[.slice a os.length c, .slice a' os.length c'] w (RetD (.bool true) w) := by
  have H1 := Lib.hid h1
  have H2 := Lib.hid h2
  obtain ⟨n, hnn⟩ : ∃ n, n = os.length := ⟨_, rfl⟩
  have HN := Lib.hid hnn
  rw [← hnn] at hn ⊢
  clear h1 h2 hnn
  go_enter Tryd.func28, Tryd.ntmps28
  go_wp2_with fail
  go_loopw [5] (fun i wr => ∃ k : Nat, k ≤ n ∧ i = .int .i64 k ∧ ∃ z, wr = w.drewN z) (fun i _ => n - (intOf i).toNat)
  case atStart => exact ⟨0, by omega, rfl, 0, rfl⟩
  case round =>
    obtain ⟨k, hk, rfl, z, rfl⟩ := hrel
    by_cases hlt : k < n
    · have hkl : k < os.length := by rw [← HN.out]; exact hlt
      obtain ⟨b, off, rfl, hB, hc⟩ := H1.out.cells (H1.out.ne (k := k) hkl)
      obtain ⟨b', off', rfl, hB', hc'⟩ := H2.out.cells (H2.out.ne (k := k) hkl)
      obtain ⟨d0, d1, d2, d3, d4, d5, d6⟩ := po_cells (fun j hj => hc k hkl j hj)
      obtain ⟨e0, e1, e2, e3, e4, e5, e6⟩ := po_cells (fun j hj => hc' k hkl j hj)
      generalize os[k] = o at *
      have hki : (k : Int) < (n : Int) := by omega
      have hk0 : (0 : Int) ≤ (k : Int) := by omega
      clear hc hc' hB hB' hkl
      generalize hU : w.drewN z = U
      have f0 : ∀ p, U.cell? p = w.cell? p := fun p => by rw [← hU]; rfl
      rw [← f0] at d0 d1 d2 d3 d4 d5 d6 e0 e1 e2 e3 e4 e5 e6
      clear f0
      go_wp2
      go_quiet (fail)
      go_wp2
      go_roundw
      case rel => exact ⟨k + 1, by omega, by go_num, z + nq, by rw [← hU]; exact (World.drewN_drewN _ _ _)⟩
      case measure => simp [intOf]; omega
    · obtain rfl : n = k := by omega
      go_wp2
      go_ret
      exact ⟨rfl, z, rfl⟩
end Go.Proofs.YtngoipcjipbelaaDoor
