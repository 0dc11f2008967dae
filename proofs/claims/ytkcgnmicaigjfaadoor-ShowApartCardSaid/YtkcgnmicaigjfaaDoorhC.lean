/- names of conditions and of operations. -/
import Derived.Test.YtkcgnmicaigjfaaDoorkI5
import Derived.Test.YtkcgnmicaigjfaaDoorkOA
namespace Go.Proofs.YtkcgnmicaigjfaaDoor
set_option linter.unusedVariables false
set_option linter.unusedSimpArgs false
open Go.ChangeShapes Go.WideShapes Go.Deep Go.RowKit
def condsT : List (List UInt8) := [[101, 113], [110, 101], [104, 115], [108, 111], [109, 105], [112, 108], [118, 115], [118, 99], [104, 105], [108, 115], [103, 101], [108, 116], [103, 116], [108, 101]]
def cdB (k : Nat) : ByteArray := ⟨(condsT.getD k []).toArray⟩
abbrev cdV : Value := .agg #[.string ⟨#[101, 113]⟩, .string ⟨#[110, 101]⟩, .string ⟨#[104, 115]⟩, .string ⟨#[108, 111]⟩, .string ⟨#[109, 105]⟩, .string ⟨#[112, 108]⟩, .string ⟨#[118, 115]⟩, .string ⟨#[118, 99]⟩, .string ⟨#[104, 105]⟩, .string ⟨#[108, 115]⟩, .string ⟨#[103, 101]⟩, .string ⟨#[108, 116]⟩, .string ⟨#[103, 116]⟩, .string ⟨#[108, 101]⟩]
def Conds (w : World) : Prop := (∀ j, j < 14 → w.cell? ⟨2, j, none⟩ = some (.string (cdB j))) ∧ 2 < w.heap.size
theorem Conds.next {w w' : World} (h : Conds w) (hb : Below w.heap.size w w') : Conds w' :=
  ⟨fun j hj => by rw [hb.cell (p := ⟨2, j, none⟩) h.2]; exact h.1 j hj, Nat.lt_of_lt_of_le h.2 hb.size⟩
theorem k14 {k : Nat} (h : k < 14) : k = 0 ∨ k = 1 ∨ k = 2 ∨ k = 3 ∨ k = 4 ∨ k = 5 ∨ k = 6 ∨ k = 7 ∨ k = 8 ∨ k = 9 ∨ k = 10 ∨ k = 11 ∨ k = 12 ∨ k = 13 := by omega
theorem cd_index {k : Nat} (h : k < 14) (w : World) : (Instr.index 73 cdV (.int .i64 (k : Int))).run Tryd.prog w = .ok (.string (cdB k)) w := by
  rcases k14 h with rfl | rfl | rfl | rfl | rfl | rfl | rfl | rfl | rfl | rfl | rfl | rfl | rfl | rfl <;> kernel_rfl
theorem cdB_list (k : Nat) : (cdB k).data.toList = condsT.getD k [] := rfl
theorem Conds.all {w : World} (h : Conds w) : w.cell? ⟨2, 0, none⟩ = some (.string ⟨#[101, 113]⟩) ∧ w.cell? ⟨2, 1, none⟩ = some (.string ⟨#[110, 101]⟩) ∧ w.cell? ⟨2, 2, none⟩ = some (.string ⟨#[104, 115]⟩) ∧ w.cell? ⟨2, 3, none⟩ = some (.string ⟨#[108, 111]⟩) ∧ w.cell? ⟨2, 4, none⟩ = some (.string ⟨#[109, 105]⟩) ∧ w.cell? ⟨2, 5, none⟩ = some (.string ⟨#[112, 108]⟩) ∧ w.cell? ⟨2, 6, none⟩ = some (.string ⟨#[118, 115]⟩) ∧ w.cell? ⟨2, 7, none⟩ = some (.string ⟨#[118, 99]⟩) ∧ w.cell? ⟨2, 8, none⟩ = some (.string ⟨#[104, 105]⟩) ∧ w.cell? ⟨2, 9, none⟩ = some (.string ⟨#[108, 115]⟩) ∧ w.cell? ⟨2, 10, none⟩ = some (.string ⟨#[103, 101]⟩) ∧ w.cell? ⟨2, 11, none⟩ = some (.string ⟨#[108, 116]⟩) ∧ w.cell? ⟨2, 12, none⟩ = some (.string ⟨#[103, 116]⟩) ∧ w.cell? ⟨2, 13, none⟩ = some (.string ⟨#[108, 101]⟩) :=
  ⟨h.1 0 (by omega), h.1 1 (by omega), h.1 2 (by omega), h.1 3 (by omega), h.1 4 (by omega), h.1 5 (by omega), h.1 6 (by omega), h.1 7 (by omega), h.1 8 (by omega), h.1 9 (by omega), h.1 10 (by omega), h.1 11 (by omega), h.1 12 (by omega), h.1 13 (by omega)⟩
def condTx (n : Int) : List UInt8 × Int := if 0 ≤ n ∧ n < 14 then (condsT.getD n.toNat [], 0) else ([], 1)
set_option maxRecDepth 100000 in
set_option maxHeartbeats 2000000 in
theorem CondText_any (n : Int) (w : World) (hT : Conds w) (hn : i64ok n) : Calls Tryd.prog 22 #[.int .i64 n] w (Ret (.tuple #[.string ⟨(condTx n).1.toArray⟩, .int .i64 (condTx n).2]) w) := by
  by_cases h : 0 ≤ n ∧ n < 14
  · obtain ⟨k, rfl⟩ := Int.eq_ofNat_of_zero_le h.1
    have hk : k < 14 := by omega
    have hc := hT.1 k hk
    have HE : Hid (condTx (k : Int) = (condsT.getD k [], 0)) := Lib.hid (by unfold condTx; rw [if_pos h]; rfl)
    have h1 : ¬ (k : Int) < 0 := by omega
    have h2 : (k : Int) < 14 := by omega
    clear hT h hn
    go_enter Tryd.func22, Tryd.ntmps22
    go_wp2
    go_ret2
    exact ⟨by rw [HE.out]; rfl, rfl⟩
  · have HE : Hid (condTx n = ([], 1)) := Lib.hid (by unfold condTx; rw [if_neg h])
    clear hT
    by_cases h1 : n < 0
    · clear h
      go_enter Tryd.func22, Tryd.ntmps22
      go_wp2
      go_ret2
      exact ⟨by rw [HE.out]; rfl, rfl⟩
    · have h2 : ¬ n < 14 := by omega
      clear h
      go_enter Tryd.func22, Tryd.ntmps22
      go_wp2
      go_ret2
      exact ⟨by rw [HE.out]; rfl, rfl⟩
def nmL : List (List UInt8) := [[], [109, 111, 118, 122], [109, 111, 118, 110], [109, 111, 118, 107], [97, 100, 100], [115, 117, 98], [97, 100, 100, 115], [115, 117, 98, 115], [97, 110, 100], [111, 114, 114], [101, 111, 114], [97, 110, 100, 115], [97, 100, 100], [115, 117, 98], [97, 100, 100, 115], [115, 117, 98, 115], [97, 110, 100], [111, 114, 114], [101, 111, 114], [97, 110, 100, 115], [109, 97, 100, 100], [109, 115, 117, 98], [108, 100, 114], [115, 116, 114], [108, 100, 114, 98], [115, 116, 114, 98], [108, 100, 114], [97, 100, 114], [97, 100, 114, 112], [98], [98, 108], [98], [99, 98, 122], [99, 98, 110, 122], [98, 114], [98, 108, 114], [114, 101, 116], [115, 118, 99], [110, 111, 112], [99, 115, 101, 108]]
def nmB (k : Nat) : ByteArray := ⟨(nmL.getD k []).toArray⟩
abbrev Names (w : World) : Prop := ∀ j, j < 40 → w.cell? ⟨0, j, none⟩ = some (.string (nmB j))
abbrev Tab5 (w : World) : Prop := Tab4 w ∧ Names w ∧ 0 < w.heap.size
theorem Tab5.below {w w' : World} (h : Tab5 w) (hb : Below w.heap.size w w') : Tab5 w' :=
  ⟨h.1.below hb, fun j hj => by rw [hb.cell (p := ⟨0, j, none⟩) h.2.2]; exact h.2.1 j hj, Nat.lt_of_lt_of_le h.2.2 hb.size⟩
def nameI (op : Int) : ByteArray × Int := if shapeI op = 0 then (⟨#[]⟩, 1) else (nmB op.toNat, 0)
abbrev sb (p : ByteArray × Int) : Value := .tuple #[.string p.1, .int .i64 p.2]
theorem ret_sb {x : ByteArray} {b : Int} {p : ByteArray × Int} {w : World} (h : p = (x, b)) : Ret (sb p) w (.returned (.tuple #[.string x, .int .i64 b])) w := by subst h; exact ⟨rfl, rfl⟩
set_option maxHeartbeats 400000 in
theorem Name_any (op : Int) (w : World) (hw : Tab5 w) : Calls Tryd.prog 10 #[.int .i64 op] w (Ret (sb (nameI op)) w) := by
  have HSh : Hid (Calls Tryd.prog 14 #[.int .i64 op] w (Ret (.int .i64 (shapeI op)) w)) := Lib.hid (Shape_any op w hw.1)
  by_cases h0 : shapeI op = 0
  · have H : Hid (nameI op = (⟨#[]⟩, 1)) := Lib.hid (by unfold nameI; rw [if_pos h0])
    rw [h0] at HSh
    clear hw h0
    go_enter Tryd.func10, Tryd.ntmps10
    go_wp2_with (go_at_call 14; ((with_reducible refine (HSh.out).mono ?_); rintro e w' ⟨rfl, rfl⟩))
    go_ret2
    exact ret_sb H.out
  · have hr : ¬ (op < 1 ∨ 39 < op) := fun c => h0 (by unfold shapeI; rw [if_pos c])
    obtain ⟨k, rfl⟩ := Int.eq_ofNat_of_zero_le (show 0 ≤ op by omega)
    have H : Hid (nameI (k : Int) = (nmB k, 0)) := Lib.hid (by unfold nameI; rw [if_neg h0]; rfl)
    have hcell := hw.2.1 k (by omega)
    have k1 : 1 ≤ k := by omega
    have k2 : k ≤ 39 := by omega
    have q : (shapeI (k : Int) == 0) = false := by rw [beq_eq_false_iff_ne]; exact h0
    clear hw h0 hr
    generalize shapeI (k : Int) = s at *
    generalize nmB k = v at *
    go_enter Tryd.func10, Tryd.ntmps10
    go_wp2_with (go_at_call 14; ((with_reducible refine (HSh.out).mono ?_); rintro e w' ⟨rfl, rfl⟩))
    go_ret2
    exact ret_sb H.out
end Go.Proofs.YtkcgnmicaigjfaaDoor
