/- The law InstMask, walked. -/
import Derived.Test.YtjnmkelppjcofaaDoorJ6
namespace Go.Proofs.YtjnmkelppjcofaaDoor
set_option linter.unusedVariables false
set_option linter.unusedSimpArgs false
open Go.RowKit

theorem mask_good (op d n v : Int) (hs : shapeI op = 3) (h : 0 ≤ d ∧ d ≤ 31 ∧ 0 ≤ n ∧ n ≤ 31) : isI ⟨op, d, n, 0, 0, 0, v, 0, 0, 0⟩ = isS v.toNat := by
  unfold isI
  simp only [hs]
  have h1 : sameI ⟨op, d, n, 0, 0, 0, v, 0, 0, 0⟩ (ownI 3 ⟨op, d, n, 0, 0, 0, v, 0, 0, 0⟩) = true := by simp [sameI, ownI, pick, hasDb, hasNb, hasMb]
  have h2 : regsI ⟨op, d, n, 0, 0, 0, v, 0, 0, 0⟩ = true := by simp only [regsI, decide_eq_true_eq]; omega
  rw [h1, h2]
  simp [numI]
theorem mask_bad (op d n v : Int) (h : ¬ (shapeI op = 3 ∧ 0 ≤ d ∧ d ≤ 31 ∧ 0 ≤ n ∧ n ≤ 31)) (hv : v ≠ 0) : isI ⟨op, d, n, 0, 0, 0, v, 0, 0, 0⟩ = false := by
  by_cases hs : shapeI op = 3
  · have h2 : regsI ⟨op, d, n, 0, 0, 0, v, 0, 0, 0⟩ = false := by simp only [regsI, decide_eq_false_iff_not]; omega
    unfold isI; rw [h2]; simp
  · have h1 : sameI ⟨op, d, n, 0, 0, 0, v, 0, 0, 0⟩ (ownI (shapeI op) ⟨op, d, n, 0, 0, 0, v, 0, 0, 0⟩) = false := by
      have e : (shapeI op == 3) = false := by rw [beq_eq_false_iff_ne]; exact hs
      simp only [sameI, ownI, pick, e]
      simp [hv]
    unfold isI; rw [h1]; simp
theorem inb_mask (op d n v : Int) (h1 : i64B op) (h2 : i64B d) (h3 : i64B n) (h4 : 0 ≤ v ∧ v < 18446744073709551616) : InB ⟨op, d, n, 0, 0, 0, v, 0, 0, 0⟩ :=
  have z : i64B 0 := by unfold i64B; omega
  ⟨h1, h2, h3, z, z, z, h4, z, z, z⟩

set_option maxRecDepth 100000 in
set_option maxHeartbeats 8000000 in
theorem InstMask_walk (op : Int) (hop : -9223372036854775808 ≤ op ∧ op ≤ 9223372036854775807) (d : Int) (hd : -9223372036854775808 ≤ d ∧ d ≤ 9223372036854775807) (n : Int) (hn : -9223372036854775808 ≤ n ∧ n ≤ 9223372036854775807) (v : Int) (hv : 0 ≤ v ∧ v < 18446744073709551616) (w : World) (hw : Tab5 w) :
    Calls Tryd.prog 8 #[.int .i64 op, .int .i64 d, .int .i64 n, .int .u64 v] w (RetB (.bool true) w) := by
  have HT := Lib.hid hw
  have hib := inb_mask op d n v hop hd hn hv
  have HC : Hid (∀ w, Tab5 w → Calls Tryd.prog 11 #[] w (RetB (.bool true) w)) := Lib.hid fun w h => shaped_any w h
  have HI : Hid (∀ w, Tab4 w → Calls Tryd.prog 12 #[.agg #[.int .i64 op, .int .i64 d, .int .i64 n, .int .i64 0, .int .i64 0, .int .i64 0, .int .u64 v, .int .i64 0, .int .i64 0, .int .i64 0]] w (RetB (.bool (isI ⟨op, d, n, 0, 0, 0, v, 0, 0, 0⟩)) w)) := Lib.hid fun w h => InstIs_any ⟨op, d, n, 0, 0, 0, v, 0, 0, 0⟩ w h hib
  have HM : Hid (∀ w, Tab4 w → Calls Tryd.prog 25 #[.int .u64 v] w (RetB (.bool (isS v.toNat)) w)) := Lib.hid fun w h => by
    obtain ⟨u, rfl⟩ := Int.eq_ofNat_of_zero_le hv.1
    have := Is_any u w (by omega) h.1
    simpa using this
  have HSh : Hid (∀ w, Tab4 w → Calls Tryd.prog 19 #[.int .i64 op] w (Ret (.int .i64 (shapeI op)) w)) := Lib.hid fun w h => Shape_any op w h
  have hW1 : Below w.heap.size w (w.alloc (.cells (inC ⟨op, d, n, 0, 0, 0, v, 0, 0, 0⟩) 24)) := (Below.refl _ w).alloc (Nat.le_refl _) _
  have hten := Ten.made w ⟨op, d, n, 0, 0, 0, v, 0, 0, 0⟩ 24
  have HG := Lib.hid (mask_good op d n v)
  have HX := Lib.hid (mask_bad op d n v)
  obtain ⟨W0, hW0⟩ : ∃ W0, W0 = w.alloc (.cells (inC ⟨op, d, n, 0, 0, 0, v, 0, 0, 0⟩) 24) := ⟨_, rfl⟩
  obtain ⟨X, hX⟩ : ∃ X, X = w.heap.size := ⟨_, rfl⟩
  have hXl : X < W0.heap.size := by rw [hX, hW0]; simp
  rw [← hW0] at hW1 hten
  rw [← hX] at hten
  have HW := Lib.hid hW1
  have HA := Lib.hid hten
  have HB := Lib.hid (Below.refl W0.heap.size W0)
  have HEQ := Lib.hid hW0
  have HXQ := Lib.hid hX
  clear hw hib hW1 hten hW0 hX hop hd hn hv
  by_cases good : shapeI op = 3 ∧ 0 ≤ d ∧ d ≤ 31 ∧ 0 ≤ n ∧ n ≤ 31
  · rw [HG.out good.1 good.2] at HI
    rw [good.1] at HSh
    obtain ⟨-, g1, g2, g3, g4⟩ := good
    generalize isS v.toNat = b at *
    go_enter Tryd.func8, Tryd.ntmps8
    go_wp2_with fail
    rw [← HEQ.out, ← HXQ.out]
    refine (HSh.out _ (HT.out.below HW.out).1).mono ?_
    rintro e w' ⟨rfl, rfl⟩
    go_wp2_with (first
      | (go_at_call 11; ((with_reducible refine (HC.out _ (HT.out.below HW.out)).mono ?_); rintro e w' ⟨rfl, hb⟩; replace HB := Lib.hid (after HB.out hb); clear hb; obtain ⟨a0, a1, a2, a3, a4, a5, a6, a7, a8, a9⟩ := HA.out.below HB.out hXl))
      | (go_at_call 12; ((with_reducible refine (HI.out _ (HT.out.below (HW.out.trans (HB.out.mono HW.out.size))).1).mono ?_); rintro e w' ⟨rfl, hb⟩; replace HB := Lib.hid (after HB.out hb); clear hb))
      | (go_at_call 25; ((with_reducible refine (HM.out _ (HT.out.below (HW.out.trans (HB.out.mono HW.out.size))).1).mono ?_); rintro e w' ⟨rfl, hb⟩; replace HB := Lib.hid (after HB.out hb); clear hb)))
    all_goals
      go_ret
      exact retB_bool (by simp) (HW.out.trans (HB.out.mono HW.out.size))
  · obtain ⟨s, hs⟩ : ∃ s, s = shapeI op := ⟨_, rfl⟩
    have cases : (s != 3) = true ∨ ((s != 3) = false ∧ d < 0) ∨ ((s != 3) = false ∧ 0 ≤ d ∧ 31 < d) ∨ ((s != 3) = false ∧ 0 ≤ d ∧ d ≤ 31 ∧ n < 0) ∨ ((s != 3) = false ∧ 0 ≤ d ∧ d ≤ 31 ∧ 0 ≤ n ∧ 31 < n) := by
      by_cases c : s = 3
      · have : (s != 3) = false := by rw [bne_eq_false_iff_eq]; exact c
        rw [← hs] at good
        simp only [this, true_and]
        omega
      · left; rw [bne_iff_ne]; exact c
    rw [← hs] at HSh
    have hib : v ≠ 0 → isI ⟨op, d, n, 0, 0, 0, v, 0, 0, 0⟩ = false := fun h => HX.out good h
    clear hs good
    by_cases cv : v = 0
    · subst cv
      clear hib
      rcases cases with q | ⟨q, h1⟩ | ⟨q, h1, h2⟩ | ⟨q, h1, h2, h3⟩ | ⟨q, h1, h2, h3, h4⟩
      all_goals
        go_enter Tryd.func8, Tryd.ntmps8
        go_wp2_with fail
        rw [← HEQ.out, ← HXQ.out]
        refine (HSh.out _ (HT.out.below HW.out).1).mono ?_
        rintro e w' ⟨rfl, rfl⟩
        go_wp2_with (go_at_call 11; ((with_reducible refine (HC.out _ (HT.out.below HW.out)).mono ?_); rintro e w' ⟨rfl, hb⟩; replace HB := Lib.hid (after HB.out hb); clear hb; obtain ⟨a0, a1, a2, a3, a4, a5, a6, a7, a8, a9⟩ := HA.out.below HB.out hXl))
        go_ret
        exact retB_bool rfl (HW.out.trans (HB.out.mono HW.out.size))
    · rw [hib cv] at HI
      have qv : (v == 0) = false := by rw [beq_eq_false_iff_ne]; exact cv
      clear hib cv
      rcases cases with q | ⟨q, h1⟩ | ⟨q, h1, h2⟩ | ⟨q, h1, h2, h3⟩ | ⟨q, h1, h2, h3, h4⟩
      all_goals
        go_enter Tryd.func8, Tryd.ntmps8
        go_wp2_with fail
        rw [← HEQ.out, ← HXQ.out]
        refine (HSh.out _ (HT.out.below HW.out).1).mono ?_
        rintro e w' ⟨rfl, rfl⟩
        go_wp2_with (first
          | (go_at_call 11; ((with_reducible refine (HC.out _ (HT.out.below HW.out)).mono ?_); rintro e w' ⟨rfl, hb⟩; replace HB := Lib.hid (after HB.out hb); clear hb; obtain ⟨a0, a1, a2, a3, a4, a5, a6, a7, a8, a9⟩ := HA.out.below HB.out hXl))
          | (go_at_call 12; ((with_reducible refine (HI.out _ (HT.out.below (HW.out.trans (HB.out.mono HW.out.size))).1).mono ?_); rintro e w' ⟨rfl, hb⟩; replace HB := Lib.hid (after HB.out hb); clear hb)))
        go_ret
        exact retB_bool rfl (HW.out.trans (HB.out.mono HW.out.size))
end Go.Proofs.YtjnmkelppjcofaaDoor
