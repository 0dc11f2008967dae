/- The law CodeFields, walked. -/
import Derived.Test.YtfhpcjeefdkacaaDoorC15
import Derived.Deep.DeepCutAuto
namespace Go.Proofs.YtfhpcjeefdkacaaDoor
set_option linter.unusedVariables false
set_option linter.unusedSimpArgs false
open Go.RowKit

theorem eq_inst (i j : In) : ∀ w, (Sem.run Tryd.prog (binOp BinOp.eql 24 (inV i) (inV j)) w) = Result.ok (.bool (sameI i j)) w := by
  intro w
  obtain ⟨o, d, n, m, a, x, k, h, t, c⟩ := i
  obtain ⟨o', d', n', m', a', x', k', h', t', c'⟩ := j
  simp [go_sem, sameI]
  repeat' split
  all_goals simp_all
theorem sameI_iff {i j : In} : sameI i j = true ↔ i = j := by
  cases i; cases j
  simp [sameI, In.mk.injEq, and_assoc]
theorem decW_d {s : Nat} (o : Int) (w : Nat) (h : hasDb s = true) (h2 : s ≤ 16) : (decW o s w).d = fw w 0 5 := by
  have hc : s = 0 ∨ s = 1 ∨ s = 2 ∨ s = 3 ∨ s = 4 ∨ s = 5 ∨ s = 6 ∨ s = 7 ∨ s = 8 ∨ s = 9 ∨ s = 10 ∨ s = 11 ∨ s = 12 ∨ s = 13 ∨ s = 14 ∨ s = 15 ∨ s = 16 := by omega
  rcases hc with rfl | rfl | rfl | rfl | rfl | rfl | rfl | rfl | rfl | rfl | rfl | rfl | rfl | rfl | rfl | rfl | rfl
  all_goals first | rfl | exact absurd h (by decide)
theorem decW_n {s : Nat} (o : Int) (w : Nat) (h : hasNb s = true) (h2 : s ≤ 16) : (decW o s w).n = fw w 5 5 := by
  have hc : s = 0 ∨ s = 1 ∨ s = 2 ∨ s = 3 ∨ s = 4 ∨ s = 5 ∨ s = 6 ∨ s = 7 ∨ s = 8 ∨ s = 9 ∨ s = 10 ∨ s = 11 ∨ s = 12 ∨ s = 13 ∨ s = 14 ∨ s = 15 ∨ s = 16 := by omega
  rcases hc with rfl | rfl | rfl | rfl | rfl | rfl | rfl | rfl | rfl | rfl | rfl | rfl | rfl | rfl | rfl | rfl | rfl
  all_goals first | rfl | exact absurd h (by decide)
theorem encP_or (i : In) : encP i = (0, 1) ∨ (isI i = true ∧ encP i = (((encW i : Nat) : Int), 0)) := by
  unfold encP
  cases isI i
  · left; rfl
  · right; exact ⟨rfl, rfl⟩

set_option maxRecDepth 100000 in
set_option maxHeartbeats 16000000 in
theorem CodeFields_walk (i : In) (hi : InB i) (j : In) (hj : InB j) (w : World) (hw : Tab6 w) : Calls Tryd.prog 7 #[inV i, inV j] w (RetB (.bool true) w) := by
  have HT := Lib.hid hw
  have HC : Hid (∀ w, Tab6 w → Calls Tryd.prog 14 #[] w (RetB (.bool true) w)) := Lib.hid fun w h => coded_any w h
  have HEi : Hid (∀ w, Tab6 w → Calls Tryd.prog 8 #[inV i] w (RetB (.tuple #[.int .u32 (encP i).1, .int .i64 (encP i).2]) w)) := Lib.hid fun w h => CEncode_any i w h hi
  have HEj : Hid (∀ w, Tab6 w → Calls Tryd.prog 8 #[inV j] w (RetB (.tuple #[.int .u32 (encP j).1, .int .i64 (encP j).2]) w)) := Lib.hid fun w h => CEncode_any j w h hj
  have hA := (Ten.made w i 24).below ((Below.refl (w.alloc (.cells (inC i) 24)).heap.size _).alloc (Nat.le_refl _) (.cells (inC j) 24)) (by simp)
  have hY := Ten.made (w.alloc (.cells (inC i) 24)) j 24
  rw [World.size_alloc] at hY
  obtain ⟨X, hX⟩ : ∃ X, X = w.heap.size := ⟨_, rfl⟩
  obtain ⟨Y, hYe⟩ : ∃ Y, Y = X + 1 := ⟨_, rfl⟩
  obtain ⟨W0, hW0⟩ : ∃ W0, W0 = (w.alloc (.cells (inC i) 24)).alloc (.cells (inC j) 24) := ⟨_, rfl⟩
  have hXl : X < W0.heap.size := by rw [hX, hW0]; simp; omega
  have hYl : Y < W0.heap.size := by rw [hYe, hX, hW0]; simp
  rw [← hW0, ← hX] at hA
  rw [← hW0, ← hX, ← hYe] at hY
  have HW : Hid (Below w.heap.size w W0) := Lib.hid (by rw [hW0]; exact bel_alloc (bel_alloc (Below.refl _ w) _) _)
  have HA := Lib.hid hA
  have HY := Lib.hid hY
  have HEQ := Lib.hid hW0
  have HXQ := Lib.hid hX
  have HYQ := Lib.hid hYe
  have HB := Lib.hid (Below.refl W0.heap.size W0)
  have HTT : Hid (∀ wx, Below W0.heap.size W0 wx → Tab6 wx) := Lib.hid fun wx hb => HT.out.below (HW.out.trans (hb.mono HW.out.size))
  have H8 := eq_inst i j
  clear hX hYe hW0 hA hY hw
  by_cases hgood : isI i = true ∧ isI j = true
  · obtain ⟨gi, gj⟩ := hgood
    obtain ⟨-, -, -, -, hlt, -, hdi⟩ := encW_spec i gi hi.mask
    have ri := (dI_enc gi hi.mask).2.1
    have rj := (dI_enc gj hj.mask).2.1
    have hne : ((((encW i : Nat) : Int) == ((encW j : Nat) : Int)) : Bool) = sameI i j := by
      rw [Bool.eq_iff_iff, sameI_iff, beq_iff_eq, Int.natCast_inj]
      constructor
      · intro h; rw [← ri, ← rj, h]
      · intro h; rw [h]
    have hb := shapeI_b i.op
    obtain ⟨s, hs⟩ := Int.eq_ofNat_of_zero_le hb.1
    rw [hs, Int.toNat_natCast] at hdi
    have HSh : Hid (∀ w, Tab6 w → Calls Tryd.prog 21 #[.int .i64 i.op] w (Ret (.int .i64 s) w)) := Lib.hid fun w h => by have := Shape_any i.op w h.1; rwa [hs] at this
    have HF0 : Hid (∀ w, Calls Tryd.prog 18 #[.int .u32 (encW i : Nat), .int .i64 0, .int .i64 5] w (RetB (.tuple #[.int .u32 (fw (encW i) 0 5), .int .i64 0]) w)) := Lib.hid fun w => by
      have := (field_any (encW i : Nat) 0 5 w (by omega) (by omega)).mono fun _ _ h => h.toB
      rwa [show fieldS (encW i : Nat) 0 5 = (fw (encW i) 0 5, 0) from fieldS_in (encW i) 0 5 (by decide) (by decide)] at this
    have HF5 : Hid (∀ w, Calls Tryd.prog 18 #[.int .u32 (encW i : Nat), .int .i64 5, .int .i64 5] w (RetB (.tuple #[.int .u32 (fw (encW i) 5 5), .int .i64 0]) w)) := Lib.hid fun w => by
      have := (field_any (encW i : Nat) 5 5 w (by omega) (by omega)).mono fun _ _ h => h.toB
      rwa [show fieldS (encW i : Nat) 5 5 = (fw (encW i) 5 5, 0) from fieldS_in (encW i) 5 5 (by decide) (by decide)] at this
    have hd0 : hasDb s = true → (fw (encW i) 0 5 == i.d) = true := fun h => by
      have := congrArg In.d hdi
      rw [decW_d i.op (encW i) h (by omega)] at this
      rw [beq_iff_eq]; exact this
    have hn0 : hasNb s = true → (fw (encW i) 5 5 == i.n) = true := fun h => by
      have := congrArg In.n hdi
      rw [decW_n i.op (encW i) h (by omega)] at this
      rw [beq_iff_eq]; exact this
    have bf0 := fw_lt (encW i) 0 5
    have bf5 := fw_lt (encW i) 5 5
    simp only [Int.reducePow] at bf0 bf5
    have hs16 : s ≤ 16 := by omega
    have hEi : encP i = (((encW i : Nat) : Int), 0) := by unfold encP; rw [gi]; rfl
    have hEj : encP j = (((encW j : Nat) : Int), 0) := by unfold encP; rw [gj]; rfl
    rw [hEi] at HEi
    rw [hEj] at HEj
    simp only [] at HEi HEj
    have HD0 := Lib.hid hd0
    have HN0 := Lib.hid hn0
    have HNE := Lib.hid hne
    clear gi gj hdi ri rj hb hs hEi hEj hlt hd0 hn0 hne hi hj
    generalize fw (encW i) 0 5 = f0 at *
    generalize fw (encW i) 5 5 = f5 at *
    generalize encW i = ei at *
    generalize encW j = ej at *
    generalize sameI i j = q at *
    obtain ⟨o, d, n, m, a, x, k, hh, t, c⟩ := i
    obtain ⟨o', d', n', m', a', x', k', hh', t', c'⟩ := j
    simp only [] at HSh HD0 HN0
    obtain ⟨a0, a1, a2, a3, a4, a5, a6, a7, a8, a9⟩ := HA.out.below HB.out hXl
    obtain ⟨b0, b1, b2, b3, b4, b5, b6, b7, b8, b9⟩ := HY.out.below HB.out hYl
    go_enter Tryd.func7, Tryd.ntmps7
    go_wp2_with fail
    rw [← HEQ.out, ← HXQ.out, ← HYQ.out]
    go_upto_region 8 with (first
      | (go_at_call 8; ((with_reducible refine (HEi.out _ (HTT.out _ HB.out)).mono ?_); rintro e w' ⟨rfl, hb⟩; replace HB := Lib.hid (after HB.out hb); clear hb; clear a0 a1 a2 a3 a4 a5 a6 a7 a8 a9 b0 b1 b2 b3 b4 b5 b6 b7 b8 b9; obtain ⟨a0, a1, a2, a3, a4, a5, a6, a7, a8, a9⟩ := HA.out.below HB.out hXl; obtain ⟨b0, b1, b2, b3, b4, b5, b6, b7, b8, b9⟩ := HY.out.below HB.out hYl))
      | (go_at_call 8; ((with_reducible refine (HEj.out _ (HTT.out _ HB.out)).mono ?_); rintro e w' ⟨rfl, hb⟩; replace HB := Lib.hid (after HB.out hb); clear hb; clear a0 a1 a2 a3 a4 a5 a6 a7 a8 a9 b0 b1 b2 b3 b4 b5 b6 b7 b8 b9; obtain ⟨a0, a1, a2, a3, a4, a5, a6, a7, a8, a9⟩ := HA.out.below HB.out hXl; obtain ⟨b0, b1, b2, b3, b4, b5, b6, b7, b8, b9⟩ := HY.out.below HB.out hYl))
      | (go_at_call 21; ((with_reducible refine (HSh.out _ (HTT.out _ HB.out)).mono ?_); rintro e w' ⟨rfl, rfl⟩))
      | (go_at_call 18; ((with_reducible refine (HF0.out _).mono ?_); rintro e w' ⟨rfl, hb⟩; replace HB := Lib.hid (after HB.out hb); clear hb; clear a0 a1 a2 a3 a4 a5 a6 a7 a8 a9 b0 b1 b2 b3 b4 b5 b6 b7 b8 b9; obtain ⟨a0, a1, a2, a3, a4, a5, a6, a7, a8, a9⟩ := HA.out.below HB.out hXl; obtain ⟨b0, b1, b2, b3, b4, b5, b6, b7, b8, b9⟩ := HY.out.below HB.out hYl))
      | (go_at_call 18; ((with_reducible refine (HF5.out _).mono ?_); rintro e w' ⟨rfl, hb⟩; replace HB := Lib.hid (after HB.out hb); clear hb; clear a0 a1 a2 a3 a4 a5 a6 a7 a8 a9 b0 b1 b2 b3 b4 b5 b6 b7 b8 b9; obtain ⟨a0, a1, a2, a3, a4, a5, a6, a7, a8, a9⟩ := HA.out.below HB.out hXl; obtain ⟨b0, b1, b2, b3, b4, b5, b6, b7, b8, b9⟩ := HY.out.below HB.out hYl)))
    go_cut [14] (fun u wx => u = .bool (hasDb s) ∧ wx = w')
    case first =>
      have hc : s = 0 ∨ s = 1 ∨ s = 2 ∨ s = 3 ∨ s = 4 ∨ s = 5 ∨ s = 6 ∨ s = 7 ∨ s = 8 ∨ s = 9 ∨ s = 10 ∨ s = 11 ∨ s = 12 ∨ s = 13 ∨ s = 14 ∨ s = 15 ∨ s = 16 := by omega
      rcases hc with rfl | rfl | rfl | rfl | rfl | rfl | rfl | rfl | rfl | rfl | rfl | rfl | rfl | rfl | rfl | rfl | rfl
      all_goals
        go_wp2
        go_meet
        exact ⟨by kernel_rfl, rfl⟩
    case rest =>
      obtain ⟨rfl, rfl⟩ := hcut
      go_upto_region 9 with (fail)
      go_cut [15] (fun u wx => u = .bool (hasNb s) ∧ wx = wc)
      case first =>
        have hc : s = 0 ∨ s = 1 ∨ s = 2 ∨ s = 3 ∨ s = 4 ∨ s = 5 ∨ s = 6 ∨ s = 7 ∨ s = 8 ∨ s = 9 ∨ s = 10 ∨ s = 11 ∨ s = 12 ∨ s = 13 ∨ s = 14 ∨ s = 15 ∨ s = 16 := by omega
        rcases hc with rfl | rfl | rfl | rfl | rfl | rfl | rfl | rfl | rfl | rfl | rfl | rfl | rfl | rfl | rfl | rfl | rfl
        all_goals
          go_wp2
          go_meet
          exact ⟨by kernel_rfl, rfl⟩
      case rest =>
        obtain ⟨rfl, rfl⟩ := hcut
        have hqe := HNE.out
        generalize hasDb s = bd at *
        generalize hasNb s = bn at *
        cases q <;> cases bd <;> cases bn
        all_goals
          have hd0 := HD0.out
          have hn0 := HN0.out
          simp only [false_imp_iff, true_imp_iff, Bool.false_eq_true, forall_const] at hd0 hn0
          go_wp2_with ((go_at_call 14; ((with_reducible refine (HC.out _ (HTT.out _ HB.out)).mono ?_); rintro e w' ⟨rfl, hb⟩; replace HB := Lib.hid (after HB.out hb); clear hb; clear a0 a1 a2 a3 a4 a5 a6 a7 a8 a9 b0 b1 b2 b3 b4 b5 b6 b7 b8 b9; obtain ⟨a0, a1, a2, a3, a4, a5, a6, a7, a8, a9⟩ := HA.out.below HB.out hXl; obtain ⟨b0, b1, b2, b3, b4, b5, b6, b7, b8, b9⟩ := HY.out.below HB.out hYl)))
          go_ret
          exact retB_bool rfl (HW.out.trans (HB.out.mono HW.out.size))
  · have hc : (encP i).2 = 1 ∨ ((encP i).2 = 0 ∧ (encP j).2 = 1) := by
      rcases encP_or i with e | ⟨g, e⟩
      · left; rw [e]
      · rcases encP_or j with e' | ⟨g', e'⟩
        · right; rw [e, e']; exact ⟨rfl, rfl⟩
        · exact (hgood ⟨g, g'⟩).elim
    clear hgood hi hj H8
    generalize (encP i).1 = v1 at *
    generalize (encP i).2 = e1 at *
    generalize (encP j).1 = v2 at *
    generalize (encP j).2 = e2 at *
    obtain ⟨o, d, n, m, a, x, k, hh, t, c⟩ := i
    obtain ⟨o', d', n', m', a', x', k', hh', t', c'⟩ := j
    obtain ⟨a0, a1, a2, a3, a4, a5, a6, a7, a8, a9⟩ := HA.out.below HB.out hXl
    obtain ⟨b0, b1, b2, b3, b4, b5, b6, b7, b8, b9⟩ := HY.out.below HB.out hYl
    have hc2 : e1 = 1 ∨ (e1 = 0 ∧ e2 = 1) := hc
    clear hc
    rcases hc2 with rfl | ⟨rfl, rfl⟩
    all_goals
      go_enter Tryd.func7, Tryd.ntmps7
      go_wp2_with fail
      rw [← HEQ.out, ← HXQ.out, ← HYQ.out]
      go_wp2_with (first
        | (go_at_call 8; ((with_reducible refine (HEi.out _ (HTT.out _ HB.out)).mono ?_); rintro e w' ⟨rfl, hb⟩; replace HB := Lib.hid (after HB.out hb); clear hb; clear a0 a1 a2 a3 a4 a5 a6 a7 a8 a9 b0 b1 b2 b3 b4 b5 b6 b7 b8 b9; obtain ⟨a0, a1, a2, a3, a4, a5, a6, a7, a8, a9⟩ := HA.out.below HB.out hXl; obtain ⟨b0, b1, b2, b3, b4, b5, b6, b7, b8, b9⟩ := HY.out.below HB.out hYl))
        | (go_at_call 8; ((with_reducible refine (HEj.out _ (HTT.out _ HB.out)).mono ?_); rintro e w' ⟨rfl, hb⟩; replace HB := Lib.hid (after HB.out hb); clear hb; clear a0 a1 a2 a3 a4 a5 a6 a7 a8 a9 b0 b1 b2 b3 b4 b5 b6 b7 b8 b9; obtain ⟨a0, a1, a2, a3, a4, a5, a6, a7, a8, a9⟩ := HA.out.below HB.out hXl; obtain ⟨b0, b1, b2, b3, b4, b5, b6, b7, b8, b9⟩ := HY.out.below HB.out hYl))
        | (go_at_call 14; ((with_reducible refine (HC.out _ (HTT.out _ HB.out)).mono ?_); rintro e w' ⟨rfl, hb⟩; replace HB := Lib.hid (after HB.out hb); clear hb; clear a0 a1 a2 a3 a4 a5 a6 a7 a8 a9 b0 b1 b2 b3 b4 b5 b6 b7 b8 b9; obtain ⟨a0, a1, a2, a3, a4, a5, a6, a7, a8, a9⟩ := HA.out.below HB.out hXl; obtain ⟨b0, b1, b2, b3, b4, b5, b6, b7, b8, b9⟩ := HY.out.below HB.out hYl)))
      go_ret
      exact retB_bool rfl (HW.out.trans (HB.out.mono HW.out.size))
end Go.Proofs.YtfhpcjeefdkacaaDoor
