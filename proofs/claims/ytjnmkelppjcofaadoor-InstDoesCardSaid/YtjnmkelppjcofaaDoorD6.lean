/- The reference's Writes. -/
import Derived.Test.YtjnmkelppjcofaaDoorD5
namespace Go.Proofs.YtjnmkelppjcofaaDoor
set_option linter.unusedVariables false
set_option linter.unusedSimpArgs false
open Go.RowKit

set_option maxRecDepth 100000 in
set_option maxHeartbeats 2000000 in
theorem RWrites_any (i : In) (w : World) (hi : InB i) : Calls Tryd.prog 10 #[inV i] w (RetB (ib (writesI i)) w) := by
  have HIs : Hid (∀ w, Calls Tryd.prog 13 #[inV i] w (RetB (.bool (isI i)) w)) := Lib.hid fun w => RIs_any i hi w
  have hwr : writesI i = writesI i := rfl
  generalize hq : isI i = b at HIs
  obtain ⟨o, d, n, m, a, x, k, h, t, c⟩ := i
  have HW : Hid (writesI ⟨o, d, n, m, a, x, k, h, t, c⟩ = if b = false ∨ o = 23 ∨ o = 25 ∨ o = 32 ∨ o = 33 then (0, false)
    else if o = 30 ∨ o = 35 then (30, true) else if hasDb (shapeI o) = false ∨ (d = 31 ∧ stackDb o = false) then (0, false) else (d, true)) := Lib.hid (by unfold writesI; rw [hq])
  have HBA := Lib.hid ((Below.refl w.heap.size w).alloc (Nat.le_refl _) (.cells (inC ⟨o, d, n, m, a, x, k, h, t, c⟩) 24))
  have hsb := shapeI_b o
  obtain ⟨q, hqs⟩ := Int.eq_ofNat_of_zero_le hsb.1
  have ht := hasR_tab ⟨q, by omega⟩
  simp only [Prod.mk.injEq] at ht
  have hbd : hasR q 100 = hasDb (shapeI o) := by rw [hqs]; exact ht.1
  have HSh : Hid (∀ w, Calls Tryd.prog 20 #[.int .i64 o] w (RetB (.int .i64 (q : Nat)) w)) := Lib.hid fun w => by have := RShape_any o w; rwa [hqs] at this
  have HD : Hid (∀ w, Calls Tryd.prog 28 #[.int .i64 (q : Nat), .string ⟨#[100]⟩] w (RetB (.bool (hasDb (shapeI o))) w)) := Lib.hid fun w => by have := Has_any q (by omega) 100 w; rwa [hbd] at this
  have HBS : Hid (stackDb o = (o == 4 || o == 5 || o == 8 || o == 9 || o == 10)) := Lib.hid rfl
  clear hbd ht hsb hqs
  clear hq hwr hi
  generalize hasDb (shapeI o) = bd at *
  generalize stackDb o = bs at *
  have cases : (b = false) ∨ (b = true ∧ (o = 23 ∨ o = 25 ∨ o = 32 ∨ o = 33 ∨ o = 30 ∨ o = 35)) ∨ (b = true ∧ ¬ (o = 23 ∨ o = 25 ∨ o = 32 ∨ o = 33 ∨ o = 30 ∨ o = 35)) := by
    cases b
    · exact .inl rfl
    · by_cases c : (o = 23 ∨ o = 25 ∨ o = 32 ∨ o = 33 ∨ o = 30 ∨ o = 35)
      · exact .inr (.inl ⟨rfl, c⟩)
      · exact .inr (.inr ⟨rfl, c⟩)
  rcases cases with rfl | ⟨rfl, ho⟩ | ⟨rfl, ho⟩
  · go_enter Tryd.func10, Tryd.ntmps10
    go_wp2_with fail
    refine (HIs.out _).mono ?_
    rintro e w1 ⟨rfl, hb⟩
    have HB := Lib.hid (after HBA.out hb)
    clear hb
    go_wp2
    go_ret2
    exact retB_ib (by rw [HW.out]; simp) HB.out
  · rcases ho with rfl | rfl | rfl | rfl | rfl | rfl
    · go_enter Tryd.func10, Tryd.ntmps10
      go_wp2_with fail
      obtain ⟨R, hR⟩ : ∃ R, R = w.heap.size := ⟨_, rfl⟩
      obtain ⟨wa, hwa⟩ : ∃ wa, wa = w.alloc (.cells (inC ⟨23, d, n, m, a, x, k, h, t, c⟩) 24) := ⟨_, rfl⟩
      have hten : Ten R ⟨23, d, n, m, a, x, k, h, t, c⟩ wa := by rw [hwa, hR]; exact Ten.made _ _ _
      have hRl : R < wa.heap.size := by rw [hwa, hR]; simp
      rw [← hwa] at HBA
      rw [← hR, ← hwa]
      refine (HIs.out _).mono ?_
      rintro e w1 ⟨rfl, hb⟩
      obtain ⟨g0, g1, g2, g3, g4, g5, g6, g7, g8, g9⟩ := hten.below hb hRl
      have HB := Lib.hid (after HBA.out hb)
      clear hb hten hwa hR
      go_wp2
      go_ret2
      exact retB_ib (by rw [HW.out]; simp) HB.out
    · go_enter Tryd.func10, Tryd.ntmps10
      go_wp2_with fail
      obtain ⟨R, hR⟩ : ∃ R, R = w.heap.size := ⟨_, rfl⟩
      obtain ⟨wa, hwa⟩ : ∃ wa, wa = w.alloc (.cells (inC ⟨25, d, n, m, a, x, k, h, t, c⟩) 24) := ⟨_, rfl⟩
      have hten : Ten R ⟨25, d, n, m, a, x, k, h, t, c⟩ wa := by rw [hwa, hR]; exact Ten.made _ _ _
      have hRl : R < wa.heap.size := by rw [hwa, hR]; simp
      rw [← hwa] at HBA
      rw [← hR, ← hwa]
      refine (HIs.out _).mono ?_
      rintro e w1 ⟨rfl, hb⟩
      obtain ⟨g0, g1, g2, g3, g4, g5, g6, g7, g8, g9⟩ := hten.below hb hRl
      have HB := Lib.hid (after HBA.out hb)
      clear hb hten hwa hR
      go_wp2
      go_ret2
      exact retB_ib (by rw [HW.out]; simp) HB.out
    · go_enter Tryd.func10, Tryd.ntmps10
      go_wp2_with fail
      obtain ⟨R, hR⟩ : ∃ R, R = w.heap.size := ⟨_, rfl⟩
      obtain ⟨wa, hwa⟩ : ∃ wa, wa = w.alloc (.cells (inC ⟨32, d, n, m, a, x, k, h, t, c⟩) 24) := ⟨_, rfl⟩
      have hten : Ten R ⟨32, d, n, m, a, x, k, h, t, c⟩ wa := by rw [hwa, hR]; exact Ten.made _ _ _
      have hRl : R < wa.heap.size := by rw [hwa, hR]; simp
      rw [← hwa] at HBA
      rw [← hR, ← hwa]
      refine (HIs.out _).mono ?_
      rintro e w1 ⟨rfl, hb⟩
      obtain ⟨g0, g1, g2, g3, g4, g5, g6, g7, g8, g9⟩ := hten.below hb hRl
      have HB := Lib.hid (after HBA.out hb)
      clear hb hten hwa hR
      go_wp2
      go_ret2
      exact retB_ib (by rw [HW.out]; simp) HB.out
    · go_enter Tryd.func10, Tryd.ntmps10
      go_wp2_with fail
      obtain ⟨R, hR⟩ : ∃ R, R = w.heap.size := ⟨_, rfl⟩
      obtain ⟨wa, hwa⟩ : ∃ wa, wa = w.alloc (.cells (inC ⟨33, d, n, m, a, x, k, h, t, c⟩) 24) := ⟨_, rfl⟩
      have hten : Ten R ⟨33, d, n, m, a, x, k, h, t, c⟩ wa := by rw [hwa, hR]; exact Ten.made _ _ _
      have hRl : R < wa.heap.size := by rw [hwa, hR]; simp
      rw [← hwa] at HBA
      rw [← hR, ← hwa]
      refine (HIs.out _).mono ?_
      rintro e w1 ⟨rfl, hb⟩
      obtain ⟨g0, g1, g2, g3, g4, g5, g6, g7, g8, g9⟩ := hten.below hb hRl
      have HB := Lib.hid (after HBA.out hb)
      clear hb hten hwa hR
      go_wp2
      go_ret2
      exact retB_ib (by rw [HW.out]; simp) HB.out
    · go_enter Tryd.func10, Tryd.ntmps10
      go_wp2_with fail
      obtain ⟨R, hR⟩ : ∃ R, R = w.heap.size := ⟨_, rfl⟩
      obtain ⟨wa, hwa⟩ : ∃ wa, wa = w.alloc (.cells (inC ⟨30, d, n, m, a, x, k, h, t, c⟩) 24) := ⟨_, rfl⟩
      have hten : Ten R ⟨30, d, n, m, a, x, k, h, t, c⟩ wa := by rw [hwa, hR]; exact Ten.made _ _ _
      have hRl : R < wa.heap.size := by rw [hwa, hR]; simp
      rw [← hwa] at HBA
      rw [← hR, ← hwa]
      refine (HIs.out _).mono ?_
      rintro e w1 ⟨rfl, hb⟩
      obtain ⟨g0, g1, g2, g3, g4, g5, g6, g7, g8, g9⟩ := hten.below hb hRl
      have HB := Lib.hid (after HBA.out hb)
      clear hb hten hwa hR
      go_wp2
      go_ret2
      exact retB_ib (by rw [HW.out]; simp) HB.out
    · go_enter Tryd.func10, Tryd.ntmps10
      go_wp2_with fail
      obtain ⟨R, hR⟩ : ∃ R, R = w.heap.size := ⟨_, rfl⟩
      obtain ⟨wa, hwa⟩ : ∃ wa, wa = w.alloc (.cells (inC ⟨35, d, n, m, a, x, k, h, t, c⟩) 24) := ⟨_, rfl⟩
      have hten : Ten R ⟨35, d, n, m, a, x, k, h, t, c⟩ wa := by rw [hwa, hR]; exact Ten.made _ _ _
      have hRl : R < wa.heap.size := by rw [hwa, hR]; simp
      rw [← hwa] at HBA
      rw [← hR, ← hwa]
      refine (HIs.out _).mono ?_
      rintro e w1 ⟨rfl, hb⟩
      obtain ⟨g0, g1, g2, g3, g4, g5, g6, g7, g8, g9⟩ := hten.below hb hRl
      have HB := Lib.hid (after HBA.out hb)
      clear hb hten hwa hR
      go_wp2
      go_ret2
      exact retB_ib (by rw [HW.out]; simp) HB.out
  · have q1 : (o == 23) = false := by rw [beq_eq_false_iff_ne]; omega
    have q2 : (o == 25) = false := by rw [beq_eq_false_iff_ne]; omega
    have q3 : (o == 32) = false := by rw [beq_eq_false_iff_ne]; omega
    have q4 : (o == 33) = false := by rw [beq_eq_false_iff_ne]; omega
    have q5 : (o == 30) = false := by rw [beq_eq_false_iff_ne]; omega
    have q6 : (o == 35) = false := by rw [beq_eq_false_iff_ne]; omega
    have HW2 : Hid (writesI ⟨o, d, n, m, a, x, k, h, t, c⟩ = if bd = false ∨ (d = 31 ∧ bs = false) then (0, false) else (d, true)) := Lib.hid (by
      rw [HW.out, if_neg (by simp; omega), if_neg (by omega)])
    clear ho HW
    have hsp : ((o = 4 ∨ o = 5 ∨ o = 8 ∨ o = 9 ∨ o = 10) ∧ bs = true) ∨ (¬ (o = 4 ∨ o = 5 ∨ o = 8 ∨ o = 9 ∨ o = 10) ∧ bs = false) := by
      by_cases c : (o = 4 ∨ o = 5 ∨ o = 8 ∨ o = 9 ∨ o = 10)
      · left; refine ⟨c, ?_⟩; rw [HBS.out]; rcases c with rfl | rfl | rfl | rfl | rfl <;> rfl
      · right; refine ⟨c, ?_⟩; rw [HBS.out]
        simp only [not_or] at c
        simp [c]
    clear HBS
    have walk : ∀ (o' : Int), o' = o → True := fun _ _ => trivial
    clear walk
    rcases hsp with ⟨hsp, rfl⟩ | ⟨hsp, rfl⟩
    · by_cases hd : d = 31
      all_goals
        first | have q7 : (d == 31) = true := by (rw [beq_iff_eq]; exact hd) | have q7 : (d == 31) = false := by (rw [beq_eq_false_iff_ne]; exact hd)
        have HDd := Lib.hid hd
        clear hd
        cases bd
        all_goals
          clear q1 q2 q3 q4 q5 q6
          rcases hsp with rfl | rfl | rfl | rfl | rfl
          · go_enter Tryd.func10, Tryd.ntmps10
            go_wp2_with fail
            obtain ⟨R, hR⟩ : ∃ R, R = w.heap.size := ⟨_, rfl⟩
            obtain ⟨wa, hwa⟩ : ∃ wa, wa = w.alloc (.cells (inC ⟨4, d, n, m, a, x, k, h, t, c⟩) 24) := ⟨_, rfl⟩
            have hten : Ten R ⟨4, d, n, m, a, x, k, h, t, c⟩ wa := by rw [hwa, hR]; exact Ten.made _ _ _
            have hRl : R < wa.heap.size := by rw [hwa, hR]; simp
            rw [← hwa] at HBA
            rw [← hR, ← hwa]
            refine (HIs.out _).mono ?_
            rintro e w1 ⟨rfl, hb⟩
            obtain ⟨g0, g1, g2, g3, g4, g5, g6, g7, g8, g9⟩ := hten.below hb hRl
            have HTT := Lib.hid (hten.below hb hRl)
            have hRl1 := Nat.lt_of_lt_of_le hRl hb.size
            have HB := Lib.hid (after HBA.out hb)
            have HBW := Lib.hid (Below.refl w1.heap.size w1)
            clear hb hten hwa hR
            go_wp2_with (first | (go_at_call 20; ((with_reducible refine (HSh.out _).mono ?_); rintro e w' ⟨rfl, hb⟩; replace HB := Lib.hid (after HB.out hb); replace HBW := Lib.hid (after HBW.out hb); clear hb)) | (go_at_call 28; ((with_reducible refine (HD.out _).mono ?_); rintro e w' ⟨rfl, hb⟩; replace HB := Lib.hid (after HB.out hb); replace HBW := Lib.hid (after HBW.out hb); clear hb; obtain ⟨y0, y1, y2, y3, y4, y5, y6, y7, y8, y9⟩ := HTT.out.below HBW.out hRl1)))
            go_ret2
            exact retB_ib (by rw [HW2.out]; simp [HDd.out]) HB.out
          · go_enter Tryd.func10, Tryd.ntmps10
            go_wp2_with fail
            obtain ⟨R, hR⟩ : ∃ R, R = w.heap.size := ⟨_, rfl⟩
            obtain ⟨wa, hwa⟩ : ∃ wa, wa = w.alloc (.cells (inC ⟨5, d, n, m, a, x, k, h, t, c⟩) 24) := ⟨_, rfl⟩
            have hten : Ten R ⟨5, d, n, m, a, x, k, h, t, c⟩ wa := by rw [hwa, hR]; exact Ten.made _ _ _
            have hRl : R < wa.heap.size := by rw [hwa, hR]; simp
            rw [← hwa] at HBA
            rw [← hR, ← hwa]
            refine (HIs.out _).mono ?_
            rintro e w1 ⟨rfl, hb⟩
            obtain ⟨g0, g1, g2, g3, g4, g5, g6, g7, g8, g9⟩ := hten.below hb hRl
            have HTT := Lib.hid (hten.below hb hRl)
            have hRl1 := Nat.lt_of_lt_of_le hRl hb.size
            have HB := Lib.hid (after HBA.out hb)
            have HBW := Lib.hid (Below.refl w1.heap.size w1)
            clear hb hten hwa hR
            go_wp2_with (first | (go_at_call 20; ((with_reducible refine (HSh.out _).mono ?_); rintro e w' ⟨rfl, hb⟩; replace HB := Lib.hid (after HB.out hb); replace HBW := Lib.hid (after HBW.out hb); clear hb)) | (go_at_call 28; ((with_reducible refine (HD.out _).mono ?_); rintro e w' ⟨rfl, hb⟩; replace HB := Lib.hid (after HB.out hb); replace HBW := Lib.hid (after HBW.out hb); clear hb; obtain ⟨y0, y1, y2, y3, y4, y5, y6, y7, y8, y9⟩ := HTT.out.below HBW.out hRl1)))
            go_ret2
            exact retB_ib (by rw [HW2.out]; simp [HDd.out]) HB.out
          · go_enter Tryd.func10, Tryd.ntmps10
            go_wp2_with fail
            obtain ⟨R, hR⟩ : ∃ R, R = w.heap.size := ⟨_, rfl⟩
            obtain ⟨wa, hwa⟩ : ∃ wa, wa = w.alloc (.cells (inC ⟨8, d, n, m, a, x, k, h, t, c⟩) 24) := ⟨_, rfl⟩
            have hten : Ten R ⟨8, d, n, m, a, x, k, h, t, c⟩ wa := by rw [hwa, hR]; exact Ten.made _ _ _
            have hRl : R < wa.heap.size := by rw [hwa, hR]; simp
            rw [← hwa] at HBA
            rw [← hR, ← hwa]
            refine (HIs.out _).mono ?_
            rintro e w1 ⟨rfl, hb⟩
            obtain ⟨g0, g1, g2, g3, g4, g5, g6, g7, g8, g9⟩ := hten.below hb hRl
            have HTT := Lib.hid (hten.below hb hRl)
            have hRl1 := Nat.lt_of_lt_of_le hRl hb.size
            have HB := Lib.hid (after HBA.out hb)
            have HBW := Lib.hid (Below.refl w1.heap.size w1)
            clear hb hten hwa hR
            go_wp2_with (first | (go_at_call 20; ((with_reducible refine (HSh.out _).mono ?_); rintro e w' ⟨rfl, hb⟩; replace HB := Lib.hid (after HB.out hb); replace HBW := Lib.hid (after HBW.out hb); clear hb)) | (go_at_call 28; ((with_reducible refine (HD.out _).mono ?_); rintro e w' ⟨rfl, hb⟩; replace HB := Lib.hid (after HB.out hb); replace HBW := Lib.hid (after HBW.out hb); clear hb; obtain ⟨y0, y1, y2, y3, y4, y5, y6, y7, y8, y9⟩ := HTT.out.below HBW.out hRl1)))
            go_ret2
            exact retB_ib (by rw [HW2.out]; simp [HDd.out]) HB.out
          · go_enter Tryd.func10, Tryd.ntmps10
            go_wp2_with fail
            obtain ⟨R, hR⟩ : ∃ R, R = w.heap.size := ⟨_, rfl⟩
            obtain ⟨wa, hwa⟩ : ∃ wa, wa = w.alloc (.cells (inC ⟨9, d, n, m, a, x, k, h, t, c⟩) 24) := ⟨_, rfl⟩
            have hten : Ten R ⟨9, d, n, m, a, x, k, h, t, c⟩ wa := by rw [hwa, hR]; exact Ten.made _ _ _
            have hRl : R < wa.heap.size := by rw [hwa, hR]; simp
            rw [← hwa] at HBA
            rw [← hR, ← hwa]
            refine (HIs.out _).mono ?_
            rintro e w1 ⟨rfl, hb⟩
            obtain ⟨g0, g1, g2, g3, g4, g5, g6, g7, g8, g9⟩ := hten.below hb hRl
            have HTT := Lib.hid (hten.below hb hRl)
            have hRl1 := Nat.lt_of_lt_of_le hRl hb.size
            have HB := Lib.hid (after HBA.out hb)
            have HBW := Lib.hid (Below.refl w1.heap.size w1)
            clear hb hten hwa hR
            go_wp2_with (first | (go_at_call 20; ((with_reducible refine (HSh.out _).mono ?_); rintro e w' ⟨rfl, hb⟩; replace HB := Lib.hid (after HB.out hb); replace HBW := Lib.hid (after HBW.out hb); clear hb)) | (go_at_call 28; ((with_reducible refine (HD.out _).mono ?_); rintro e w' ⟨rfl, hb⟩; replace HB := Lib.hid (after HB.out hb); replace HBW := Lib.hid (after HBW.out hb); clear hb; obtain ⟨y0, y1, y2, y3, y4, y5, y6, y7, y8, y9⟩ := HTT.out.below HBW.out hRl1)))
            go_ret2
            exact retB_ib (by rw [HW2.out]; simp [HDd.out]) HB.out
          · go_enter Tryd.func10, Tryd.ntmps10
            go_wp2_with fail
            obtain ⟨R, hR⟩ : ∃ R, R = w.heap.size := ⟨_, rfl⟩
            obtain ⟨wa, hwa⟩ : ∃ wa, wa = w.alloc (.cells (inC ⟨10, d, n, m, a, x, k, h, t, c⟩) 24) := ⟨_, rfl⟩
            have hten : Ten R ⟨10, d, n, m, a, x, k, h, t, c⟩ wa := by rw [hwa, hR]; exact Ten.made _ _ _
            have hRl : R < wa.heap.size := by rw [hwa, hR]; simp
            rw [← hwa] at HBA
            rw [← hR, ← hwa]
            refine (HIs.out _).mono ?_
            rintro e w1 ⟨rfl, hb⟩
            obtain ⟨g0, g1, g2, g3, g4, g5, g6, g7, g8, g9⟩ := hten.below hb hRl
            have HTT := Lib.hid (hten.below hb hRl)
            have hRl1 := Nat.lt_of_lt_of_le hRl hb.size
            have HB := Lib.hid (after HBA.out hb)
            have HBW := Lib.hid (Below.refl w1.heap.size w1)
            clear hb hten hwa hR
            go_wp2_with (first | (go_at_call 20; ((with_reducible refine (HSh.out _).mono ?_); rintro e w' ⟨rfl, hb⟩; replace HB := Lib.hid (after HB.out hb); replace HBW := Lib.hid (after HBW.out hb); clear hb)) | (go_at_call 28; ((with_reducible refine (HD.out _).mono ?_); rintro e w' ⟨rfl, hb⟩; replace HB := Lib.hid (after HB.out hb); replace HBW := Lib.hid (after HBW.out hb); clear hb; obtain ⟨y0, y1, y2, y3, y4, y5, y6, y7, y8, y9⟩ := HTT.out.below HBW.out hRl1)))
            go_ret2
            exact retB_ib (by rw [HW2.out]; simp [HDd.out]) HB.out
    · have p1 : (o == 4) = false := by rw [beq_eq_false_iff_ne]; omega
      have p2 : (o == 5) = false := by rw [beq_eq_false_iff_ne]; omega
      have p3 : (o == 8) = false := by rw [beq_eq_false_iff_ne]; omega
      have p4 : (o == 9) = false := by rw [beq_eq_false_iff_ne]; omega
      have p5 : (o == 10) = false := by rw [beq_eq_false_iff_ne]; omega
      clear hsp
      by_cases hd : d = 31
      all_goals
        first | have q7 : (d == 31) = true := by (rw [beq_iff_eq]; exact hd) | have q7 : (d == 31) = false := by (rw [beq_eq_false_iff_ne]; exact hd)
        have HDd := Lib.hid hd
        clear hd
        cases bd
        all_goals
          go_enter Tryd.func10, Tryd.ntmps10
          go_wp2_with fail
          obtain ⟨R, hR⟩ : ∃ R, R = w.heap.size := ⟨_, rfl⟩
          obtain ⟨wa, hwa⟩ : ∃ wa, wa = w.alloc (.cells (inC ⟨o, d, n, m, a, x, k, h, t, c⟩) 24) := ⟨_, rfl⟩
          have hten : Ten R ⟨o, d, n, m, a, x, k, h, t, c⟩ wa := by rw [hwa, hR]; exact Ten.made _ _ _
          have hRl : R < wa.heap.size := by rw [hwa, hR]; simp
          rw [← hwa] at HBA
          rw [← hR, ← hwa]
          refine (HIs.out _).mono ?_
          rintro e w1 ⟨rfl, hb⟩
          obtain ⟨g0, g1, g2, g3, g4, g5, g6, g7, g8, g9⟩ := hten.below hb hRl
          have HTT := Lib.hid (hten.below hb hRl)
          have hRl1 := Nat.lt_of_lt_of_le hRl hb.size
          have HB := Lib.hid (after HBA.out hb)
          have HBW := Lib.hid (Below.refl w1.heap.size w1)
          clear hb hten hwa hR
          go_wp2_with (first | (go_at_call 20; ((with_reducible refine (HSh.out _).mono ?_); rintro e w' ⟨rfl, hb⟩; replace HB := Lib.hid (after HB.out hb); replace HBW := Lib.hid (after HBW.out hb); clear hb)) | (go_at_call 28; ((with_reducible refine (HD.out _).mono ?_); rintro e w' ⟨rfl, hb⟩; replace HB := Lib.hid (after HB.out hb); replace HBW := Lib.hid (after HBW.out hb); clear hb; obtain ⟨y0, y1, y2, y3, y4, y5, y6, y7, y8, y9⟩ := HTT.out.below HBW.out hRl1)))
          go_ret2
          exact retB_ib (by rw [HW2.out]; simp [HDd.out]) HB.out
end Go.Proofs.YtjnmkelppjcofaaDoor
