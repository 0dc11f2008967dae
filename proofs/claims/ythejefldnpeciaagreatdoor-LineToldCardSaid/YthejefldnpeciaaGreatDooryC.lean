/- line: conditions. -/
import Derived.Test.YthejefldnpeciaaGreatDooryA
namespace Go.Proofs.YthejefldnpeciaaGreatDoor
set_option linter.unusedVariables false
set_option linter.unusedSimpArgs false
open Go.ChangeShapes Go.WideShapes Go.Deep Go.RowKit

def cdB (k : Nat) : ByteArray := ⟨(condsT.getD k []).toArray⟩
abbrev cdV : Value := .agg #[.string ⟨#[101, 113]⟩, .string ⟨#[110, 101]⟩, .string ⟨#[104, 115]⟩, .string ⟨#[108, 111]⟩, .string ⟨#[109, 105]⟩, .string ⟨#[112, 108]⟩, .string ⟨#[118, 115]⟩, .string ⟨#[118, 99]⟩, .string ⟨#[104, 105]⟩, .string ⟨#[108, 115]⟩, .string ⟨#[103, 101]⟩, .string ⟨#[108, 116]⟩, .string ⟨#[103, 116]⟩, .string ⟨#[108, 101]⟩]
def Conds (w : World) : Prop := (∀ j, j < 14 → w.cell? ⟨2, j, none⟩ = some (.string (cdB j))) ∧ 2 < w.heap.size
theorem Conds.next {w w' : World} (h : Conds w) (hb : Below w.heap.size w w') : Conds w' :=
  ⟨fun j hj => by rw [hb.cell (p := ⟨2, j, none⟩) h.2]; exact h.1 j hj, Nat.lt_of_lt_of_le h.2 hb.size⟩
theorem k14 {k : Nat} (h : k < 14) : k = 0 ∨ k = 1 ∨ k = 2 ∨ k = 3 ∨ k = 4 ∨ k = 5 ∨ k = 6 ∨ k = 7 ∨ k = 8 ∨ k = 9 ∨ k = 10 ∨ k = 11 ∨ k = 12 ∨ k = 13 := by omega
theorem cond_at {k : Nat} (h : k < 14) : condM (condsT.getD k []) = ((k : Int), 0) := by
  rcases k14 h with rfl | rfl | rfl | rfl | rfl | rfl | rfl | rfl | rfl | rfl | rfl | rfl | rfl | rfl <;> decide
theorem cond_no {s : List UInt8} (h : ∀ j, j < 14 → condsT.getD j [] ≠ s) : condM s = (0, 6) := by
  unfold condM
  rw [if_neg]
  intro hm
  obtain ⟨j, hj, e⟩ := List.getElem_of_mem hm
  exact h j hj (by rw [List.getD_eq_getElem?_getD, List.getElem?_eq_getElem hj]; exact e)
theorem cd_index {k : Nat} (h : k < 14) (w : World) : (Instr.index 71 cdV (.int .i64 (k : Int))).run Tryz.prog w = .ok (.string (cdB k)) w := by
  rcases k14 h with rfl | rfl | rfl | rfl | rfl | rfl | rfl | rfl | rfl | rfl | rfl | rfl | rfl | rfl <;> kernel_rfl
theorem cdB_list (k : Nat) : (cdB k).data.toList = condsT.getD k [] := rfl
theorem Conds.all {w : World} (h : Conds w) : w.cell? ⟨2, 0, none⟩ = some (.string ⟨#[101, 113]⟩) ∧ w.cell? ⟨2, 1, none⟩ = some (.string ⟨#[110, 101]⟩) ∧ w.cell? ⟨2, 2, none⟩ = some (.string ⟨#[104, 115]⟩) ∧ w.cell? ⟨2, 3, none⟩ = some (.string ⟨#[108, 111]⟩) ∧ w.cell? ⟨2, 4, none⟩ = some (.string ⟨#[109, 105]⟩) ∧ w.cell? ⟨2, 5, none⟩ = some (.string ⟨#[112, 108]⟩) ∧ w.cell? ⟨2, 6, none⟩ = some (.string ⟨#[118, 115]⟩) ∧ w.cell? ⟨2, 7, none⟩ = some (.string ⟨#[118, 99]⟩) ∧ w.cell? ⟨2, 8, none⟩ = some (.string ⟨#[104, 105]⟩) ∧ w.cell? ⟨2, 9, none⟩ = some (.string ⟨#[108, 115]⟩) ∧ w.cell? ⟨2, 10, none⟩ = some (.string ⟨#[103, 101]⟩) ∧ w.cell? ⟨2, 11, none⟩ = some (.string ⟨#[108, 116]⟩) ∧ w.cell? ⟨2, 12, none⟩ = some (.string ⟨#[103, 116]⟩) ∧ w.cell? ⟨2, 13, none⟩ = some (.string ⟨#[108, 101]⟩) :=
  ⟨h.1 0 (by omega), h.1 1 (by omega), h.1 2 (by omega), h.1 3 (by omega), h.1 4 (by omega), h.1 5 (by omega), h.1 6 (by omega), h.1 7 (by omega), h.1 8 (by omega), h.1 9 (by omega), h.1 10 (by omega), h.1 11 (by omega), h.1 12 (by omega), h.1 13 (by omega)⟩
set_option maxRecDepth 100000 in
set_option maxHeartbeats 2000000 in
theorem Cond_any (s : ByteArray) (w : World) (hT : Conds w) : Calls Tryz.prog 16 #[.string s] w (Ret (two .i64 .i64 (condM s.data.toList)) w) := by
  obtain ⟨c0, c1, c2, c3, c4, c5, c6, c7, c8, c9, c10, c11, c12, c13⟩ := hT.all
  have HN : Hid (∀ j, j < 0 → condsT.getD j [] ≠ s.data.toList) := Lib.hid (fun j hj => absurd hj (by omega))
  clear hT
  go_enter Tryz.func16, Tryz.ntmps16
  go_wp2_with fail
  go_loop [7] (fun i => ∃ k : Nat, k ≤ 14 ∧ i = .int .i64 k ∧ Hid (∀ j, j < k → condsT.getD j [] ≠ s.data.toList)) (fun i => 14 - (intOf i).toNat)
  case atStart => exact ⟨0, by omega, rfl, HN⟩
  case round =>
    clear HN
    obtain ⟨k, hk, rfl, HN⟩ := hrel
    by_cases hlt : k < 14
    · have hI := cd_index hlt
      have HL := Lib.hid hlt
      by_cases he : s.data.toList = condsT.getD k []
      · have HE : Hid (condM s.data.toList = ((k : Int), 0)) := Lib.hid (by rw [he]; exact cond_at hlt)
        have ht : (s.toList == (cdB k).toList) = true := by rw [ByteArray.toList_eq, ByteArray.toList_eq, cdB_list, he]; simp
        clear he
        go_wp2
        go_ret2
        exact ⟨by rw [HE.out]; rfl, rfl⟩
      · have HN2 : Hid (∀ j, j < k + 1 → condsT.getD j [] ≠ s.data.toList) := Lib.hid (fun j hj => by
          rcases Nat.lt_succ_iff_lt_or_eq.1 hj with h | h
          · exact HN.out j h
          · subst h; exact fun e => he e.symm)
        have ht : (s.toList == (cdB k).toList) = false := by rw [ByteArray.toList_eq, ByteArray.toList_eq, cdB_list]; simpa using he
        clear he
        go_wp2
        go_round
        case rel => exact ⟨k + 1, by have := HL.out; omega, by go_num, HN2⟩
        case measure => have := HL.out; simp [intOf]; omega
    · obtain rfl : k = 14 := by omega
      have HE : Hid (condM s.data.toList = (0, 6)) := Lib.hid (cond_no HN.out)
      clear HN hk hlt
      go_wp2
      go_ret2
      exact ⟨by rw [HE.out]; rfl, rfl⟩
def condTx (n : Int) : List UInt8 × Int := if 0 ≤ n ∧ n < 14 then (condsT.getD n.toNat [], 0) else ([], 1)
set_option maxRecDepth 100000 in
set_option maxHeartbeats 2000000 in
theorem CondText_any (n : Int) (w : World) (hT : Conds w) (hn : i64ok n) : Calls Tryz.prog 15 #[.int .i64 n] w (Ret (.tuple #[.string ⟨(condTx n).1.toArray⟩, .int .i64 (condTx n).2]) w) := by
  by_cases h : 0 ≤ n ∧ n < 14
  · obtain ⟨k, rfl⟩ := Int.eq_ofNat_of_zero_le h.1
    have hk : k < 14 := by omega
    have hc := hT.1 k hk
    have HE : Hid (condTx (k : Int) = (condsT.getD k [], 0)) := Lib.hid (by unfold condTx; rw [if_pos h]; rfl)
    have h1 : ¬ (k : Int) < 0 := by omega
    have h2 : (k : Int) < 14 := by omega
    clear hT h hn
    go_enter Tryz.func15, Tryz.ntmps15
    go_wp2
    go_ret2
    exact ⟨by rw [HE.out]; rfl, rfl⟩
  · have HE : Hid (condTx n = ([], 1)) := Lib.hid (by unfold condTx; rw [if_neg h])
    clear hT
    by_cases h1 : n < 0
    · clear h
      go_enter Tryz.func15, Tryz.ntmps15
      go_wp2
      go_ret2
      exact ⟨by rw [HE.out]; rfl, rfl⟩
    · have h2 : ¬ n < 14 := by omega
      clear h
      go_enter Tryz.func15, Tryz.ntmps15
      go_wp2
      go_ret2
      exact ⟨by rw [HE.out]; rfl, rfl⟩
/-- The tables that line's functions read. -/
def TabL (w : World) : Prop := Tab4 w ∧ TabO w ∧ Conds w
theorem TabL.next {w w' : World} (h : TabL w) (hb : Below w.heap.size w w') : TabL w' := ⟨h.1.below hb, h.2.1.next hb, h.2.2.next hb⟩
/-- The tables lie below the maker. -/
def TL (w : World) (p : Nat) : Prop := ∃ w0, TabL w0 ∧ w0.heap.size ≤ p ∧ Below w0.heap.size w0 w
theorem TL.tab {w : World} {p : Nat} (h : TL w p) : TabL w := by obtain ⟨w0, h1, -, h3⟩ := h; exact h1.next h3
theorem TL.next {w w' : World} {p : Nat} (h : TL w p) (hb : Below w.heap.size w w') : TL w' p := by obtain ⟨w0, h1, h2, h3⟩ := h; exact ⟨w0, h1, h2, after h3 hb⟩
theorem TL.kept {w w' : World} {p : Nat} (h : TL w p) (hk : KP p w w') : TL w' p := by obtain ⟨w0, h1, h2, h3⟩ := h; exact ⟨w0, h1, h2, KP.to_below h3 hk h2⟩
end Go.Proofs.YthejefldnpeciaaGreatDoor
