/- inst.Writes. -/
import Derived.Test.YtjnmkelppjcofaaDoorI5
namespace Go.Proofs.YtjnmkelppjcofaaDoor
set_option linter.unusedVariables false
set_option linter.unusedSimpArgs false
open Go.RowKit

abbrev ib (p : Int × Bool) : Value := .tuple #[.int .i64 p.1, .bool p.2]
theorem retB_ib {x : Int} {b : Bool} {p : Int × Bool} {w w' : World} (h : p = (x, b)) (hb : Below w.heap.size w w') : RetB (ib p) w (.returned (.tuple #[.int .i64 x, .bool b])) w' := by subst h; exact ⟨rfl, hb⟩
def writesI (i : In) : Int × Bool :=
  if isI i = false ∨ i.op = 23 ∨ i.op = 25 ∨ i.op = 32 ∨ i.op = 33 then (0, false)
  else if i.op = 30 ∨ i.op = 35 then (30, true)
  else if hasDb (shapeI i.op) = false ∨ (i.d = 31 ∧ stackDb i.op = false) then (0, false) else (i.d, true)

set_option maxRecDepth 100000 in
set_option maxHeartbeats 2000000 in
theorem Writes_any (i : In) (w : World) (hw : Tab4 w) (hi : InB i) : Calls Tryd.prog 9 #[inV i] w (RetB (ib (writesI i)) w) := by
  have HIs : Hid (∀ w, Tab4 w → Calls Tryd.prog 12 #[inV i] w (RetB (.bool (isI i)) w)) := Lib.hid fun w h => InstIs_any i w h hi
  have hwr : writesI i = writesI i := rfl
  generalize hq : isI i = b at HIs
  obtain ⟨o, d, n, m, a, x, k, h, t, c⟩ := i
  have HW : Hid (writesI ⟨o, d, n, m, a, x, k, h, t, c⟩ = if b = false ∨ o = 23 ∨ o = 25 ∨ o = 32 ∨ o = 33 then (0, false)
    else if o = 30 ∨ o = 35 then (30, true) else if hasDb (shapeI o) = false ∨ (d = 31 ∧ stackDb o = false) then (0, false) else (d, true)) := Lib.hid (by unfold writesI; rw [hq])
  have HT := Lib.hid hw
  have HBA := Lib.hid ((Below.refl w.heap.size w).alloc (Nat.le_refl _) (.cells (inC ⟨o, d, n, m, a, x, k, h, t, c⟩) 24))
  have HSh : Hid (∀ w, Tab4 w → Calls Tryd.prog 19 #[.int .i64 o] w (Ret (.int .i64 (shapeI o)) w)) := Lib.hid fun w h => Shape_any o w h
  have HD : Hid (∀ w, Calls Tryd.prog 26 #[.int .i64 (shapeI o)] w (Ret (.bool (hasDb (shapeI o))) w)) := Lib.hid fun w => hasD_any _ w
  have HS : Hid (∀ w, Calls Tryd.prog 27 #[.int .i64 o] w (Ret (.bool (stackDb o)) w)) := Lib.hid fun w => stackD_any _ w
  clear hq hwr hw hi
  generalize hasDb (shapeI o) = bd at *
  generalize stackDb o = bs at *
  generalize shapeI o = s at *
  have cases : (b = false) ∨ (b = true ∧ (o = 23 ∨ o = 25 ∨ o = 32 ∨ o = 33 ∨ o = 30 ∨ o = 35)) ∨ (b = true ∧ ¬ (o = 23 ∨ o = 25 ∨ o = 32 ∨ o = 33 ∨ o = 30 ∨ o = 35)) := by
    cases b
    · exact .inl rfl
    · by_cases c : (o = 23 ∨ o = 25 ∨ o = 32 ∨ o = 33 ∨ o = 30 ∨ o = 35)
      · exact .inr (.inl ⟨rfl, c⟩)
      · exact .inr (.inr ⟨rfl, c⟩)
  rcases cases with rfl | ⟨rfl, ho⟩ | ⟨rfl, ho⟩
  · go_enter Tryd.func9, Tryd.ntmps9
    go_wp2_with fail
    refine (HIs.out _ (HT.out.below HBA.out)).mono ?_
    rintro e w1 ⟨rfl, hb⟩
    have HB := Lib.hid (after HBA.out hb)
    clear hb
    go_wp2
    go_ret2
    exact retB_ib (by rw [HW.out]; simp) HB.out
  · rcases ho with rfl | rfl | rfl | rfl | rfl | rfl
    · go_enter Tryd.func9, Tryd.ntmps9
      go_wp2_with fail
      obtain ⟨R, hR⟩ : ∃ R, R = w.heap.size := ⟨_, rfl⟩
      obtain ⟨wa, hwa⟩ : ∃ wa, wa = w.alloc (.cells (inC ⟨23, d, n, m, a, x, k, h, t, c⟩) 24) := ⟨_, rfl⟩
      have hten : Ten R ⟨23, d, n, m, a, x, k, h, t, c⟩ wa := by rw [hwa, hR]; exact Ten.made _ _ _
      have hRl : R < wa.heap.size := by rw [hwa, hR]; simp
      rw [← hwa] at HBA
      rw [← hR, ← hwa]
      refine (HIs.out _ (HT.out.below HBA.out)).mono ?_
      rintro e w1 ⟨rfl, hb⟩
      obtain ⟨g0, g1, g2, g3, g4, g5, g6, g7, g8, g9⟩ := hten.below hb hRl
      have HB := Lib.hid (after HBA.out hb)
      clear hb hten hwa hR
      go_wp2
      go_ret2
      exact retB_ib (by rw [HW.out]; simp) HB.out
    · go_enter Tryd.func9, Tryd.ntmps9
      go_wp2_with fail
      obtain ⟨R, hR⟩ : ∃ R, R = w.heap.size := ⟨_, rfl⟩
      obtain ⟨wa, hwa⟩ : ∃ wa, wa = w.alloc (.cells (inC ⟨25, d, n, m, a, x, k, h, t, c⟩) 24) := ⟨_, rfl⟩
      have hten : Ten R ⟨25, d, n, m, a, x, k, h, t, c⟩ wa := by rw [hwa, hR]; exact Ten.made _ _ _
      have hRl : R < wa.heap.size := by rw [hwa, hR]; simp
      rw [← hwa] at HBA
      rw [← hR, ← hwa]
      refine (HIs.out _ (HT.out.below HBA.out)).mono ?_
      rintro e w1 ⟨rfl, hb⟩
      obtain ⟨g0, g1, g2, g3, g4, g5, g6, g7, g8, g9⟩ := hten.below hb hRl
      have HB := Lib.hid (after HBA.out hb)
      clear hb hten hwa hR
      go_wp2
      go_ret2
      exact retB_ib (by rw [HW.out]; simp) HB.out
    · go_enter Tryd.func9, Tryd.ntmps9
      go_wp2_with fail
      obtain ⟨R, hR⟩ : ∃ R, R = w.heap.size := ⟨_, rfl⟩
      obtain ⟨wa, hwa⟩ : ∃ wa, wa = w.alloc (.cells (inC ⟨32, d, n, m, a, x, k, h, t, c⟩) 24) := ⟨_, rfl⟩
      have hten : Ten R ⟨32, d, n, m, a, x, k, h, t, c⟩ wa := by rw [hwa, hR]; exact Ten.made _ _ _
      have hRl : R < wa.heap.size := by rw [hwa, hR]; simp
      rw [← hwa] at HBA
      rw [← hR, ← hwa]
      refine (HIs.out _ (HT.out.below HBA.out)).mono ?_
      rintro e w1 ⟨rfl, hb⟩
      obtain ⟨g0, g1, g2, g3, g4, g5, g6, g7, g8, g9⟩ := hten.below hb hRl
      have HB := Lib.hid (after HBA.out hb)
      clear hb hten hwa hR
      go_wp2
      go_ret2
      exact retB_ib (by rw [HW.out]; simp) HB.out
    · go_enter Tryd.func9, Tryd.ntmps9
      go_wp2_with fail
      obtain ⟨R, hR⟩ : ∃ R, R = w.heap.size := ⟨_, rfl⟩
      obtain ⟨wa, hwa⟩ : ∃ wa, wa = w.alloc (.cells (inC ⟨33, d, n, m, a, x, k, h, t, c⟩) 24) := ⟨_, rfl⟩
      have hten : Ten R ⟨33, d, n, m, a, x, k, h, t, c⟩ wa := by rw [hwa, hR]; exact Ten.made _ _ _
      have hRl : R < wa.heap.size := by rw [hwa, hR]; simp
      rw [← hwa] at HBA
      rw [← hR, ← hwa]
      refine (HIs.out _ (HT.out.below HBA.out)).mono ?_
      rintro e w1 ⟨rfl, hb⟩
      obtain ⟨g0, g1, g2, g3, g4, g5, g6, g7, g8, g9⟩ := hten.below hb hRl
      have HB := Lib.hid (after HBA.out hb)
      clear hb hten hwa hR
      go_wp2
      go_ret2
      exact retB_ib (by rw [HW.out]; simp) HB.out
    · go_enter Tryd.func9, Tryd.ntmps9
      go_wp2_with fail
      obtain ⟨R, hR⟩ : ∃ R, R = w.heap.size := ⟨_, rfl⟩
      obtain ⟨wa, hwa⟩ : ∃ wa, wa = w.alloc (.cells (inC ⟨30, d, n, m, a, x, k, h, t, c⟩) 24) := ⟨_, rfl⟩
      have hten : Ten R ⟨30, d, n, m, a, x, k, h, t, c⟩ wa := by rw [hwa, hR]; exact Ten.made _ _ _
      have hRl : R < wa.heap.size := by rw [hwa, hR]; simp
      rw [← hwa] at HBA
      rw [← hR, ← hwa]
      refine (HIs.out _ (HT.out.below HBA.out)).mono ?_
      rintro e w1 ⟨rfl, hb⟩
      obtain ⟨g0, g1, g2, g3, g4, g5, g6, g7, g8, g9⟩ := hten.below hb hRl
      have HB := Lib.hid (after HBA.out hb)
      clear hb hten hwa hR
      go_wp2
      go_ret2
      exact retB_ib (by rw [HW.out]; simp) HB.out
    · go_enter Tryd.func9, Tryd.ntmps9
      go_wp2_with fail
      obtain ⟨R, hR⟩ : ∃ R, R = w.heap.size := ⟨_, rfl⟩
      obtain ⟨wa, hwa⟩ : ∃ wa, wa = w.alloc (.cells (inC ⟨35, d, n, m, a, x, k, h, t, c⟩) 24) := ⟨_, rfl⟩
      have hten : Ten R ⟨35, d, n, m, a, x, k, h, t, c⟩ wa := by rw [hwa, hR]; exact Ten.made _ _ _
      have hRl : R < wa.heap.size := by rw [hwa, hR]; simp
      rw [← hwa] at HBA
      rw [← hR, ← hwa]
      refine (HIs.out _ (HT.out.below HBA.out)).mono ?_
      rintro e w1 ⟨rfl, hb⟩
      obtain ⟨g0, g1, g2, g3, g4, g5, g6, g7, g8, g9⟩ := hten.below hb hRl
      have HB := Lib.hid (after HBA.out hb)
      clear hb hten hwa hR
      go_wp2
      go_ret2
      exact retB_ib (by rw [HW.out]; simp) HB.out
  · have q1 : (o == 23) = false := by rw [beq_eq_false_iff_ne]; omega
    have q2 : (o == 25) = false := by rw [beq_eq_false_iff_ne]; omega
    have q3 : (o == 32) = false := by rw [beq_eq_false_iff_ne]; omega
    have q4 : (o == 33) = false := by rw [beq_eq_false_iff_ne]; omega
    have q5 : (o == 30) = false := by rw [beq_eq_false_iff_ne]; omega
    have q6 : (o == 35) = false := by rw [beq_eq_false_iff_ne]; omega
    have HW2 : Hid (writesI ⟨o, d, n, m, a, x, k, h, t, c⟩ = if bd = false ∨ (d = 31 ∧ bs = false) then (0, false) else (d, true)) := Lib.hid (by
      rw [HW.out, if_neg (by simp; omega), if_neg (by omega)])
    clear ho HW
    by_cases hd : d = 31
    all_goals
      first | have q7 : (d == 31) = true := by (rw [beq_iff_eq]; exact hd) | have q7 : (d == 31) = false := by (rw [beq_eq_false_iff_ne]; exact hd)
      have HDd := Lib.hid hd
      clear hd
      cases bd <;> cases bs
      all_goals
        go_enter Tryd.func9, Tryd.ntmps9
        go_wp2_with fail
        obtain ⟨R, hR⟩ : ∃ R, R = w.heap.size := ⟨_, rfl⟩
        obtain ⟨wa, hwa⟩ : ∃ wa, wa = w.alloc (.cells (inC ⟨o, d, n, m, a, x, k, h, t, c⟩) 24) := ⟨_, rfl⟩
        have hten : Ten R ⟨o, d, n, m, a, x, k, h, t, c⟩ wa := by rw [hwa, hR]; exact Ten.made _ _ _
        have hRl : R < wa.heap.size := by rw [hwa, hR]; simp
        rw [← hwa] at HBA
        rw [← hR, ← hwa]
        refine (HIs.out _ (HT.out.below HBA.out)).mono ?_
        rintro e w1 ⟨rfl, hb⟩
        obtain ⟨g0, g1, g2, g3, g4, g5, g6, g7, g8, g9⟩ := hten.below hb hRl
        have HB := Lib.hid (after HBA.out hb)
        clear hb hten hwa hR
        go_wp2_with (first | (go_at_call 19; ((with_reducible refine (HSh.out _ (HT.out.below HB.out)).mono ?_); rintro e w' ⟨rfl, rfl⟩)) | (go_at_call 26; ((with_reducible refine (HD.out _).mono ?_); rintro e w' ⟨rfl, rfl⟩)) | (go_at_call 27; ((with_reducible refine (HS.out _).mono ?_); rintro e w' ⟨rfl, rfl⟩)))
        go_ret2
        exact retB_ib (by rw [HW2.out]; simp [HDd.out]) HB.out
end Go.Proofs.YtjnmkelppjcofaaDoor
