/- inst.Name; the table of the names. -/
import Derived.Test.YthejefldnpeciaaGreatDooryC
namespace Go.Proofs.YthejefldnpeciaaGreatDoor
set_option linter.unusedVariables false
set_option linter.unusedSimpArgs false
open Go.ChangeShapes Go.WideShapes Go.Deep Go.RowKit

def nmL : List (List UInt8) := [[], [109, 111, 118, 122], [109, 111, 118, 110], [109, 111, 118, 107], [97, 100, 100], [115, 117, 98], [97, 100, 100, 115], [115, 117, 98, 115], [97, 110, 100], [111, 114, 114], [101, 111, 114], [97, 110, 100, 115], [97, 100, 100], [115, 117, 98], [97, 100, 100, 115], [115, 117, 98, 115], [97, 110, 100], [111, 114, 114], [101, 111, 114], [97, 110, 100, 115], [109, 97, 100, 100], [109, 115, 117, 98], [108, 100, 114], [115, 116, 114], [108, 100, 114, 98], [115, 116, 114, 98], [108, 100, 114], [97, 100, 114], [97, 100, 114, 112], [98], [98, 108], [98], [99, 98, 122], [99, 98, 110, 122], [98, 114], [98, 108, 114], [114, 101, 116], [115, 118, 99], [110, 111, 112], [99, 115, 101, 108]]
def nmB (k : Nat) : ByteArray := ⟨(nmL.getD k []).toArray⟩
abbrev Names (w : World) : Prop := ∀ j, j < 40 → w.cell? ⟨0, j, none⟩ = some (.string (nmB j))
abbrev Tab5 (w : World) : Prop := Tab4 w ∧ Names w ∧ 0 < w.heap.size
theorem Tab5.below {w w' : World} (h : Tab5 w) (hb : Below w.heap.size w w') : Tab5 w' :=
  ⟨h.1.below hb, fun j hj => by rw [hb.cell (p := ⟨0, j, none⟩) h.2.2]; exact h.2.1 j hj, Nat.lt_of_lt_of_le h.2.2 hb.size⟩
def nameI (op : Int) : ByteArray × Int := if shapeI op = 0 then (⟨#[]⟩, 1) else (nmB op.toNat, 0)
abbrev sb (p : ByteArray × Int) : Value := .tuple #[.string p.1, .int .i64 p.2]
theorem ret_sb {x : ByteArray} {b : Int} {p : ByteArray × Int} {w : World} (h : p = (x, b)) : Ret (sb p) w (.returned (.tuple #[.string x, .int .i64 b])) w := by subst h; exact ⟨rfl, rfl⟩
set_option maxHeartbeats 400000 in
theorem Name_any (op : Int) (w : World) (hw : Tab5 w) : Calls Tryz.prog 10 #[.int .i64 op] w (Ret (sb (nameI op)) w) := by
  have HSh : Hid (Calls Tryz.prog 14 #[.int .i64 op] w (Ret (.int .i64 (shapeI op)) w)) := Lib.hid (Shape_any op w hw.1)
  by_cases h0 : shapeI op = 0
  · have H : Hid (nameI op = (⟨#[]⟩, 1)) := Lib.hid (by unfold nameI; rw [if_pos h0])
    rw [h0] at HSh
    clear hw h0
    go_enter Tryz.func10, Tryz.ntmps10
    go_wp2_with (go_at_call 14; ((with_reducible refine (HSh.out).mono ?_); rintro e w' ⟨rfl, rfl⟩))
    go_ret2
    exact ret_sb H.out
  · have hr : ¬ (op < 1 ∨ 39 < op) := fun c => h0 (by unfold shapeI; rw [if_pos c])
    obtain ⟨k, rfl⟩ := Int.eq_ofNat_of_zero_le (show 0 ≤ op by omega)
    have H : Hid (nameI (k : Int) = (nmB k, 0)) := Lib.hid (by unfold nameI; rw [if_neg h0]; rfl)
    have hcell := hw.2.1 k (by omega)
    have k1 : 1 ≤ k := by omega
    have k2 : k ≤ 39 := by omega
    have q : (shapeI (k : Int) == 0) = false := by rw [beq_eq_false_iff_ne]; exact h0
    clear hw h0 hr
    generalize shapeI (k : Int) = s at *
    generalize nmB k = v at *
    go_enter Tryz.func10, Tryz.ntmps10
    go_wp2_with (go_at_call 14; ((with_reducible refine (HSh.out).mono ?_); rintro e w' ⟨rfl, rfl⟩))
    go_ret2
    exact ret_sb H.out
/-- The tables, and the names. -/
def TabM (w : World) : Prop := TabL w ∧ Names w ∧ 0 < w.heap.size
theorem TabM.five {w : World} (h : TabM w) : Tab5 w := ⟨h.1.1, h.2⟩
theorem TabM.next {w w' : World} (h : TabM w) (hb : Below w.heap.size w w') : TabM w' := ⟨h.1.next hb, (h.five.below hb).2⟩
end Go.Proofs.YthejefldnpeciaaGreatDoor
