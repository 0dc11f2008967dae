/- The closure that tells sizes; Size. -/
import Derived.Test.YtdeigbdcipkaaaaGreatDoorB8
import Derived.Deep.QuietTactic
import Derived.BigQuiet
namespace Go.Proofs.YtdeigbdcipkaaaaGreatDoor
set_option linter.unusedVariables false
set_option linter.unusedSimpArgs false
open Go.RowKit

theorem grownBy_step {w w' : World} {b : Nat} {u : Value} (h : w.grownBy w' (some b)) : w.grownBy (w'.setCell ⟨b, 0, none⟩ u) (some b) :=
  ⟨h.os, h.tape, h.output, by have := h.size; simp [World.setCell]; omega, fun k hk hne => by
    rw [← h.block k hk hne]
    exact Below.heap_setCell _ _ _ _ (by simp at hne ⊢; omega)⟩
abbrev nextV (B : Nat) : Value := .func (Fn.func 106) #[] #[.pointer (some ⟨B, 0, none⟩)]
def Cell1 (w : World) (B : Nat) (m : Int) : Prop := w.heap[B]? = some (.cells #[.int .i64 m] 3 (0, 0))
def CloPost (w : World) (B m : Nat) (e : Ending) (w' : World) : Prop :=
  e = .returned (.int .i64 (if 32 < m then 0 else (m : Int) * 2)) ∧ Cell1 w' B ((m : Int) * 2) ∧ w.grownBy w' (some B)

set_option maxHeartbeats 400000 in
theorem clo_any (m B : Nat) (w : World) (h1 : 1 ≤ m) (h2 : m ≤ 64) (hB : Cell1 w B m) :
    Calls Tryz.prog 106 #[.pointer (some ⟨B, 0, none⟩)] w (CloPost w B m) := by
  unfold Cell1 at hB
  have hlt := lt_of_block hB
  have hc := cell_of_one hB
  have hf := free_of_one hB
  have HB := Lib.hid hB
  clear hB
  by_cases c : 32 < m
  · go_enter Tryz.func106, Tryz.ntmps106
    go_wp2
    go_ret
    exact ⟨by rw [if_pos c]; rfl, one_setCell HB.out, grownBy_step (World.grownBy.refl _ _)⟩
  · go_enter Tryz.func106, Tryz.ntmps106
    go_wp2
    go_ret
    exact ⟨by rw [if_neg c]; rfl, one_setCell HB.out, grownBy_step (World.grownBy.refl _ _)⟩
def SizesPost (w : World) (e : Ending) (w' : World) : Prop := e = .returned (nextV w.heap.size) ∧ w' = w.alloc (.cells #[.int .i64 1] 3)
theorem sizes_any (w : World) : Calls Tryz.prog 101 #[] w (SizesPost w) := by
  go_enter Tryz.func101, Tryz.ntmps101
  go_wp2
  go_ret
  exact ⟨rfl, rfl⟩
end Go.Proofs.YtdeigbdcipkaaaaGreatDoor
