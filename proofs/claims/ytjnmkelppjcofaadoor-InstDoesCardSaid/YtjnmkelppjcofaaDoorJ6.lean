/- The document's rows of inst (shaped). -/
import Derived.Test.YtjnmkelppjcofaaDoorJ5
namespace Go.Proofs.YtjnmkelppjcofaaDoor
set_option linter.unusedVariables false
set_option linter.unusedSimpArgs false
open Go.RowKit

abbrev iA : In := ⟨4, 31, 2, 0, 0, 0, 0, 0, 0, 0⟩
abbrev iB : In := ⟨12, 31, 2, 2, 0, 0, 0, 0, 0, 0⟩
abbrev iC : In := ⟨25, 1, 31, 0, 0, 0, 0, 0, 0, 0⟩
abbrev iZ : In := ⟨0, 0, 0, 0, 0, 0, 0, 0, 0, 0⟩
theorem isA : isI iA = true := by decide +kernel
theorem isZ : isI iZ = false := by decide +kernel
theorem wrA : writesI iA = (31, true) := by decide +kernel
theorem wrB : writesI iB = (0, false) := by decide +kernel
theorem wrC : writesI iC = (0, false) := by decide +kernel
theorem rdA : readsI iA = [2] := by decide +kernel
theorem rdB : readsI iB = [2] := by decide +kernel
theorem rdC : readsI iC = [1, 31] := by decide +kernel
theorem nmC : nameI 39 = (⟨#[99, 115, 101, 108]⟩, 0) := by decide +kernel
theorem shB : shapeI 29 = 11 := by decide +kernel
theorem inb_small (i : In) (h : (decide (0 ≤ i.op) && decide (i.op ≤ 100) && decide (0 ≤ i.d) && decide (i.d ≤ 100) && decide (0 ≤ i.n) && decide (i.n ≤ 100) && decide (0 ≤ i.m) && decide (i.m ≤ 100)) = true) (ha : i.a = 0) (h5 : i.imm = 0) (h6 : i.mask = 0) (h7 : i.shift = 0) (h8 : i.amount = 0) (h9 : i.cond = 0) : InB i := by
  simp only [Bool.and_eq_true, decide_eq_true_eq] at h
  exact ⟨by unfold i64B; omega, by unfold i64B; omega, by unfold i64B; omega, by unfold i64B; omega, by unfold i64B; omega, by unfold i64B; omega, by omega, by unfold i64B; omega, by unfold i64B; omega, by unfold i64B; omega⟩
theorem inbA : InB iA := inb_small _ rfl rfl rfl rfl rfl rfl rfl
theorem inbB : InB iB := inb_small _ rfl rfl rfl rfl rfl rfl rfl
theorem inbC : InB iC := inb_small _ rfl rfl rfl rfl rfl rfl rfl
theorem inbZ : InB iZ := inb_small _ rfl rfl rfl rfl rfl rfl rfl

def RetN (n : Nat) (l : List Int) (w : World) (e : Ending) (w' : World) : Prop :=
  ∃ a c, e = .returned (.slice a n c) ∧ SL encI 1 w' w'.heap.size a n l ∧ Below w.heap.size w w'
theorem RetL.toN {n : Nat} {l : List Int} {w w' : World} {e : Ending} (h : RetL l w e w') (hn : l.length = n) : RetN n l w e w' := by
  subst hn
  obtain ⟨a, c, h1, h2, _, h3⟩ := h
  exact ⟨a, c, h1, h2, h3⟩
/-- The row that was read, against a row just written down. -/
theorem same_lit1 (a : Option Addr) (c : Nat) (w : World) (x : Int) (h : SL encI 1 w w.heap.size a 1 [x]) :
    Calls Tryd.prog 14 #[.slice a 1 c, .slice (some ⟨w.heap.size, 0, none⟩) 1 1] (w.alloc (.cells #[.int .i64 x] 3)) (RetB (.bool true) (w.alloc (.cells #[.int .i64 x] 3))) := by
  have := Same_any a (some ⟨w.heap.size, 0, none⟩) 1 1 c 1 [x] [x] (w.alloc (.cells #[.int .i64 x] 3)) (by decide) (by decide)
    (h.next ((Below.refl _ w).alloc (Nat.le_refl _) _)) ((SL.lit w 3 [x] encI_len (by decide) #[.int .i64 x] rfl 1 rfl).up (by simp))
  rwa [decide_eq_true rfl] at this
theorem same_lit2 (a : Option Addr) (c : Nat) (w : World) (x y : Int) (h : SL encI 1 w w.heap.size a 2 [x, y]) :
    Calls Tryd.prog 14 #[.slice a 2 c, .slice (some ⟨w.heap.size, 0, none⟩) 2 2] (w.alloc (.cells #[.int .i64 x, .int .i64 y] 3)) (RetB (.bool true) (w.alloc (.cells #[.int .i64 x, .int .i64 y] 3))) := by
  have := Same_any a (some ⟨w.heap.size, 0, none⟩) 2 2 c 2 [x, y] [x, y] (w.alloc (.cells #[.int .i64 x, .int .i64 y] 3)) (by decide) (by decide)
    (h.next ((Below.refl _ w).alloc (Nat.le_refl _) _)) ((SL.lit w 3 [x, y] encI_len (by decide) #[.int .i64 x, .int .i64 y] rfl 2 rfl).up (by simp))
  rwa [decide_eq_true rfl] at this

set_option maxRecDepth 100000 in
set_option maxHeartbeats 8000000 in
theorem shaped_any (w : World) (hw : Tab5 w) : Calls Tryd.prog 11 #[] w (RetB (.bool true) w) := by
  have HT := Lib.hid hw
  clear hw
  have WA : Hid (∀ w, Tab4 w → Calls Tryd.prog 9 #[.agg #[.int .i64 4, .int .i64 31, .int .i64 2, .int .i64 0, .int .i64 0, .int .i64 0, .int .u64 0, .int .i64 0, .int .i64 0, .int .i64 0]] w (RetB (.tuple #[.int .i64 31, .bool true]) w)) := Lib.hid fun w h => by have := Writes_any iA w h inbA; rwa [wrA] at this
  have WB : Hid (∀ w, Tab4 w → Calls Tryd.prog 9 #[.agg #[.int .i64 12, .int .i64 31, .int .i64 2, .int .i64 2, .int .i64 0, .int .i64 0, .int .u64 0, .int .i64 0, .int .i64 0, .int .i64 0]] w (RetB (.tuple #[.int .i64 0, .bool false]) w)) := Lib.hid fun w h => by have := Writes_any iB w h inbB; rwa [wrB] at this
  have WC : Hid (∀ w, Tab4 w → Calls Tryd.prog 9 #[.agg #[.int .i64 25, .int .i64 1, .int .i64 31, .int .i64 0, .int .i64 0, .int .i64 0, .int .u64 0, .int .i64 0, .int .i64 0, .int .i64 0]] w (RetB (.tuple #[.int .i64 0, .bool false]) w)) := Lib.hid fun w h => by have := Writes_any iC w h inbC; rwa [wrC] at this
  have RA : Hid (∀ w, Tab4 w → Calls Tryd.prog 15 #[.agg #[.int .i64 4, .int .i64 31, .int .i64 2, .int .i64 0, .int .i64 0, .int .i64 0, .int .u64 0, .int .i64 0, .int .i64 0, .int .i64 0]] w (RetN 1 [2] w)) := Lib.hid fun w h => by have := Reads_any iA w h inbA; rw [rdA] at this; exact this.mono fun _ _ h => h.toN rfl
  have RB : Hid (∀ w, Tab4 w → Calls Tryd.prog 15 #[.agg #[.int .i64 12, .int .i64 31, .int .i64 2, .int .i64 2, .int .i64 0, .int .i64 0, .int .u64 0, .int .i64 0, .int .i64 0, .int .i64 0]] w (RetN 1 [2] w)) := Lib.hid fun w h => by have := Reads_any iB w h inbB; rw [rdB] at this; exact this.mono fun _ _ h => h.toN rfl
  have RC : Hid (∀ w, Tab4 w → Calls Tryd.prog 15 #[.agg #[.int .i64 25, .int .i64 1, .int .i64 31, .int .i64 0, .int .i64 0, .int .i64 0, .int .u64 0, .int .i64 0, .int .i64 0, .int .i64 0]] w (RetN 2 [1, 31] w)) := Lib.hid fun w h => by have := Reads_any iC w h inbC; rw [rdC] at this; exact this.mono fun _ _ h => h.toN rfl
  have IA : Hid (∀ w, Tab4 w → Calls Tryd.prog 12 #[.agg #[.int .i64 4, .int .i64 31, .int .i64 2, .int .i64 0, .int .i64 0, .int .i64 0, .int .u64 0, .int .i64 0, .int .i64 0, .int .i64 0]] w (RetB (.bool true) w)) := Lib.hid fun w h => by have := InstIs_any iA w h inbA; rwa [isA] at this
  have IZ : Hid (∀ w, Tab4 w → Calls Tryd.prog 12 #[.agg #[.int .i64 0, .int .i64 0, .int .i64 0, .int .i64 0, .int .i64 0, .int .i64 0, .int .u64 0, .int .i64 0, .int .i64 0, .int .i64 0]] w (RetB (.bool false) w)) := Lib.hid fun w h => by have := InstIs_any iZ w h inbZ; rwa [isZ] at this
  have NC : Hid (∀ w, Tab5 w → Calls Tryd.prog 17 #[.int .i64 39] w (Ret (.tuple #[.string ⟨#[99, 115, 101, 108]⟩, .int .i64 0]) w)) := Lib.hid fun w h => by have := Name_any 39 w h; rwa [nmC] at this
  have SB : Hid (∀ w, Tab4 w → Calls Tryd.prog 19 #[.int .i64 29] w (Ret (.int .i64 11) w)) := Lib.hid fun w h => by have := Shape_any 29 w h; rwa [shB] at this
  have S1 := Lib.hid same_lit1
  have S2 := Lib.hid same_lit2
  go_enter Tryd.func11, Tryd.ntmps11
  go_wp2_with fail
  obtain ⟨W0, hW0⟩ : ∃ W0, W0 = ((w.alloc (.cells (inC iA) 24)).alloc (.cells (inC iB) 24)).alloc (.cells (inC iC) 24) := ⟨_, rfl⟩
  have HW : Hid (Below w.heap.size w W0) := Lib.hid (by rw [hW0]; exact (((Below.refl _ w).alloc (Nat.le_refl _) _).alloc (by simp) _).alloc (by simp; omega) _)
  have hA0 : Ten w.heap.size iA W0 := by
    rw [hW0]; exact (Ten.made w iA _).below (C := w.heap.size + 1) ((((Below.refl _ _).alloc (by simp) _)).alloc (by simp) _) (by omega)
  have hB0 : Ten (w.heap.size + 1) iB W0 := by
    have := Ten.made (w.alloc (.cells (inC iA) 24)) iB 24
    rw [World.size_alloc] at this
    rw [hW0]; exact this.below (C := w.heap.size + 2) ((Below.refl _ _).alloc (by simp) _) (by omega)
  have hC0 : Ten (w.heap.size + 1 + 1) iC W0 := by
    have := Ten.made ((w.alloc (.cells (inC iA) 24)).alloc (.cells (inC iB) 24)) iC 24
    rw [World.size_alloc, World.size_alloc] at this
    rw [hW0]; exact this
  have hz : W0.heap.size = w.heap.size + 3 := by rw [hW0]; simp
  rw [← hW0]
  obtain ⟨X, hX⟩ : ∃ X, X = w.heap.size := ⟨_, rfl⟩
  obtain ⟨Y, hY⟩ : ∃ Y, Y = X + 1 := ⟨_, rfl⟩
  obtain ⟨Z, hZ⟩ : ∃ Z, Z = Y + 1 := ⟨_, rfl⟩
  rw [← hX] at hA0 hB0 hC0 hz ⊢
  rw [← hY] at hB0 hC0 ⊢
  rw [← hZ] at hC0 ⊢
  have HA := Lib.hid hA0
  have HBt := Lib.hid hB0
  have HC := Lib.hid hC0
  have hA : X < W0.heap.size := by omega
  have hB : Y < W0.heap.size := by omega
  have hC : Z < W0.heap.size := by omega
  have HB := Lib.hid (Below.refl W0.heap.size W0)
  clear hW0 hX hY hZ hz
  obtain ⟨a0, a1, a2, a3, a4, a5, a6, a7, a8, a9⟩ := hA0
  obtain ⟨b0, b1, b2, b3, b4, b5, b6, b7, b8, b9⟩ := hB0
  obtain ⟨c0, c1, c2, c3, c4, c5, c6, c7, c8, c9⟩ := hC0
  go_wp2_with (first
    | (go_at_call 9; ((with_reducible refine (WA.out _ (HT.out.below (HW.out.trans (HB.out.mono HW.out.size))).1).mono ?_); rintro e w' ⟨rfl, hb⟩; replace HB := Lib.hid (after HB.out hb); clear hb; clear a0 a1 a2 a3 a4 a5 a6 a7 a8 a9 b0 b1 b2 b3 b4 b5 b6 b7 b8 b9 c0 c1 c2 c3 c4 c5 c6 c7 c8 c9; obtain ⟨a0, a1, a2, a3, a4, a5, a6, a7, a8, a9⟩ := HA.out.below HB.out hA; obtain ⟨b0, b1, b2, b3, b4, b5, b6, b7, b8, b9⟩ := HBt.out.below HB.out hB; obtain ⟨c0, c1, c2, c3, c4, c5, c6, c7, c8, c9⟩ := HC.out.below HB.out hC))
    | (go_at_call 9; ((with_reducible refine (WB.out _ (HT.out.below (HW.out.trans (HB.out.mono HW.out.size))).1).mono ?_); rintro e w' ⟨rfl, hb⟩; replace HB := Lib.hid (after HB.out hb); clear hb; clear a0 a1 a2 a3 a4 a5 a6 a7 a8 a9 b0 b1 b2 b3 b4 b5 b6 b7 b8 b9 c0 c1 c2 c3 c4 c5 c6 c7 c8 c9; obtain ⟨a0, a1, a2, a3, a4, a5, a6, a7, a8, a9⟩ := HA.out.below HB.out hA; obtain ⟨b0, b1, b2, b3, b4, b5, b6, b7, b8, b9⟩ := HBt.out.below HB.out hB; obtain ⟨c0, c1, c2, c3, c4, c5, c6, c7, c8, c9⟩ := HC.out.below HB.out hC))
    | (go_at_call 9; ((with_reducible refine (WC.out _ (HT.out.below (HW.out.trans (HB.out.mono HW.out.size))).1).mono ?_); rintro e w' ⟨rfl, hb⟩; replace HB := Lib.hid (after HB.out hb); clear hb; clear a0 a1 a2 a3 a4 a5 a6 a7 a8 a9 b0 b1 b2 b3 b4 b5 b6 b7 b8 b9 c0 c1 c2 c3 c4 c5 c6 c7 c8 c9; obtain ⟨a0, a1, a2, a3, a4, a5, a6, a7, a8, a9⟩ := HA.out.below HB.out hA; obtain ⟨b0, b1, b2, b3, b4, b5, b6, b7, b8, b9⟩ := HBt.out.below HB.out hB; obtain ⟨c0, c1, c2, c3, c4, c5, c6, c7, c8, c9⟩ := HC.out.below HB.out hC))
    | (go_at_call 17; ((with_reducible refine (NC.out _ (HT.out.below (HW.out.trans (HB.out.mono HW.out.size)))).mono ?_); rintro e w' ⟨rfl, rfl⟩))
    | (go_at_call 19; ((with_reducible refine (SB.out _ (HT.out.below (HW.out.trans (HB.out.mono HW.out.size))).1).mono ?_); rintro e w' ⟨rfl, rfl⟩))
    | (go_at_call 12; ((with_reducible refine (IA.out _ (HT.out.below (HW.out.trans (HB.out.mono HW.out.size))).1).mono ?_); rintro e w' ⟨rfl, hb⟩; replace HB := Lib.hid (after HB.out hb); clear hb; clear a0 a1 a2 a3 a4 a5 a6 a7 a8 a9 b0 b1 b2 b3 b4 b5 b6 b7 b8 b9 c0 c1 c2 c3 c4 c5 c6 c7 c8 c9; obtain ⟨a0, a1, a2, a3, a4, a5, a6, a7, a8, a9⟩ := HA.out.below HB.out hA; obtain ⟨b0, b1, b2, b3, b4, b5, b6, b7, b8, b9⟩ := HBt.out.below HB.out hB; obtain ⟨c0, c1, c2, c3, c4, c5, c6, c7, c8, c9⟩ := HC.out.below HB.out hC))
    | (go_at_call 12; ((with_reducible refine (IZ.out _ (HT.out.below (HW.out.trans (HB.out.mono HW.out.size))).1).mono ?_); rintro e w' ⟨rfl, hb⟩; replace HB := Lib.hid (after HB.out hb); clear hb; clear a0 a1 a2 a3 a4 a5 a6 a7 a8 a9 b0 b1 b2 b3 b4 b5 b6 b7 b8 b9 c0 c1 c2 c3 c4 c5 c6 c7 c8 c9; obtain ⟨a0, a1, a2, a3, a4, a5, a6, a7, a8, a9⟩ := HA.out.below HB.out hA; obtain ⟨b0, b1, b2, b3, b4, b5, b6, b7, b8, b9⟩ := HBt.out.below HB.out hB; obtain ⟨c0, c1, c2, c3, c4, c5, c6, c7, c8, c9⟩ := HC.out.below HB.out hC))
    | (go_at_call 15; ((with_reducible refine (RA.out _ (HT.out.below (HW.out.trans (HB.out.mono HW.out.size))).1).mono ?_); rintro e w' ⟨ar, cr, rfl, hsl, hb⟩; replace HB := Lib.hid (after HB.out hb); clear hb; clear a0 a1 a2 a3 a4 a5 a6 a7 a8 a9 b0 b1 b2 b3 b4 b5 b6 b7 b8 b9 c0 c1 c2 c3 c4 c5 c6 c7 c8 c9; obtain ⟨a0, a1, a2, a3, a4, a5, a6, a7, a8, a9⟩ := HA.out.below HB.out hA; obtain ⟨b0, b1, b2, b3, b4, b5, b6, b7, b8, b9⟩ := HBt.out.below HB.out hB; obtain ⟨c0, c1, c2, c3, c4, c5, c6, c7, c8, c9⟩ := HC.out.below HB.out hC))
    | (go_at_call 15; ((with_reducible refine (RB.out _ (HT.out.below (HW.out.trans (HB.out.mono HW.out.size))).1).mono ?_); rintro e w' ⟨ar, cr, rfl, hsl, hb⟩; replace HB := Lib.hid (after HB.out hb); clear hb; clear a0 a1 a2 a3 a4 a5 a6 a7 a8 a9 b0 b1 b2 b3 b4 b5 b6 b7 b8 b9 c0 c1 c2 c3 c4 c5 c6 c7 c8 c9; obtain ⟨a0, a1, a2, a3, a4, a5, a6, a7, a8, a9⟩ := HA.out.below HB.out hA; obtain ⟨b0, b1, b2, b3, b4, b5, b6, b7, b8, b9⟩ := HBt.out.below HB.out hB; obtain ⟨c0, c1, c2, c3, c4, c5, c6, c7, c8, c9⟩ := HC.out.below HB.out hC))
    | (go_at_call 15; ((with_reducible refine (RC.out _ (HT.out.below (HW.out.trans (HB.out.mono HW.out.size))).1).mono ?_); rintro e w' ⟨ar, cr, rfl, hsl, hb⟩; replace HB := Lib.hid (after HB.out hb); clear hb; clear a0 a1 a2 a3 a4 a5 a6 a7 a8 a9 b0 b1 b2 b3 b4 b5 b6 b7 b8 b9 c0 c1 c2 c3 c4 c5 c6 c7 c8 c9; obtain ⟨a0, a1, a2, a3, a4, a5, a6, a7, a8, a9⟩ := HA.out.below HB.out hA; obtain ⟨b0, b1, b2, b3, b4, b5, b6, b7, b8, b9⟩ := HBt.out.below HB.out hB; obtain ⟨c0, c1, c2, c3, c4, c5, c6, c7, c8, c9⟩ := HC.out.below HB.out hC))
    | (go_at_call 14; ((with_reducible refine (S1.out _ _ _ _ hsl).mono ?_); rintro e w' ⟨rfl, hb⟩; replace HB := Lib.hid (after (HB.out.alloc HB.out.size _) hb); clear hb hsl; clear a0 a1 a2 a3 a4 a5 a6 a7 a8 a9 b0 b1 b2 b3 b4 b5 b6 b7 b8 b9 c0 c1 c2 c3 c4 c5 c6 c7 c8 c9; obtain ⟨a0, a1, a2, a3, a4, a5, a6, a7, a8, a9⟩ := HA.out.below HB.out hA; obtain ⟨b0, b1, b2, b3, b4, b5, b6, b7, b8, b9⟩ := HBt.out.below HB.out hB; obtain ⟨c0, c1, c2, c3, c4, c5, c6, c7, c8, c9⟩ := HC.out.below HB.out hC))
    | (go_at_call 14; ((with_reducible refine (S2.out _ _ _ _ _ hsl).mono ?_); rintro e w' ⟨rfl, hb⟩; replace HB := Lib.hid (after (HB.out.alloc HB.out.size _) hb); clear hb hsl; clear a0 a1 a2 a3 a4 a5 a6 a7 a8 a9 b0 b1 b2 b3 b4 b5 b6 b7 b8 b9 c0 c1 c2 c3 c4 c5 c6 c7 c8 c9; obtain ⟨a0, a1, a2, a3, a4, a5, a6, a7, a8, a9⟩ := HA.out.below HB.out hA; obtain ⟨b0, b1, b2, b3, b4, b5, b6, b7, b8, b9⟩ := HBt.out.below HB.out hB; obtain ⟨c0, c1, c2, c3, c4, c5, c6, c7, c8, c9⟩ := HC.out.below HB.out hC)))
  go_ret
  exact ⟨rfl, HW.out.trans (HB.out.mono HW.out.size)⟩
end Go.Proofs.YtjnmkelppjcofaaDoor
