/- The reference's Is: where the registers are right. -/
import Derived.Test.YtjnmkelppjcofaaDoorDA
import Derived.Test.YtjnmkelppjcofaaDoorB14
import Derived.Deep.DeepCutAuto
namespace Go.Proofs.YtjnmkelppjcofaaDoor
set_option linter.unusedVariables false
set_option linter.unusedSimpArgs false
open Go.RowKit

set_option maxRecDepth 100000 in
set_option maxHeartbeats 4000000 in
theorem RIs_yes (i : In) (w : World) (s : Nat) (hs : s ≤ 16) (hsz : shapeI i.op = s) (h1 : 1 ≤ s) (hi : InB i) (h : (regR s 100 i.d && regR s 110 i.n && regR s 109 i.m && regR s 97 i.a) = true) :
    Calls Tryd.prog 13 #[inV i] w (RetB (.bool (refI s s i)) w) := by
  obtain ⟨o, d, n, m, a, x, k, hh, t, c⟩ := i
  simp only [] at hsz h
  obtain ⟨kv, rfl⟩ := Int.eq_ofNat_of_zero_le (show 0 ≤ k from hi.mask.1)
  have HMK : Hid (∀ w, Calls Tryd.prog 33 #[.int .u64 kv] w (Ret (.bool (isS kv)) w)) := Lib.hid fun w => refIs_any kv w (by have := hi.mask.2; simp only [] at this; omega)
  have HIM : Hid (∀ w, Calls Tryd.prog 34 #[.int .i64 s, .int .i64 x] w (Ret (.bool (immR s x)) w)) := Lib.hid fun w => imm_any s x w hi.imm
  have HAM : Hid (∀ w, Calls Tryd.prog 35 #[.int .i64 s, .int .i64 t] w (Ret (.bool (amountR s t)) w)) := Lib.hid fun w => amount_any s t w hi.amount
  have HHC : Hid (∀ w, Calls Tryd.prog 28 #[.int .i64 s, .string ⟨#[99]⟩] w (RetB (.bool (hasR s 99)) w)) := Lib.hid fun w => Has_any s hs 99 w
  have HREF : Hid (refI s s ⟨o, d, n, m, a, x, kv, hh, t, c⟩ = (immR s x && amountR s t && shiftR s hh && condR s c && maskR s kv)) := Lib.hid (by unfold refI; simp only []; rw [h, Bool.true_and])
  clear hi
  have HSh : Hid (∀ w, Calls Tryd.prog 20 #[.int .i64 o] w (RetB (.int .i64 s) w)) := Lib.hid fun w => by have := RShape_any o w; rwa [hsz] at this
  have HD : Hid (∀ w, Calls Tryd.prog 32 #[.int .i64 s, .string ⟨#[100]⟩, .int .i64 d] w (RetB (.bool (regR s 100 d)) w)) := Lib.hid fun w => reg_any s hs 100 d w
  have HN : Hid (∀ w, Calls Tryd.prog 32 #[.int .i64 s, .string ⟨#[110]⟩, .int .i64 n] w (RetB (.bool (regR s 110 n)) w)) := Lib.hid fun w => reg_any s hs 110 n w
  have HM : Hid (∀ w, Calls Tryd.prog 32 #[.int .i64 s, .string ⟨#[109]⟩, .int .i64 m] w (RetB (.bool (regR s 109 m)) w)) := Lib.hid fun w => reg_any s hs 109 m w
  have HA : Hid (∀ w, Calls Tryd.prog 32 #[.int .i64 s, .string ⟨#[97]⟩, .int .i64 a] w (RetB (.bool (regR s 97 a)) w)) := Lib.hid fun w => reg_any s hs 97 a w
  generalize regR s 100 d = b1 at *
  generalize regR s 110 n = b2 at *
  generalize regR s 109 m = b3 at *
  generalize regR s 97 a = b4 at *
  have hten := Ten.made w ⟨o, d, n, m, a, x, (kv : Nat), hh, t, c⟩ 24
  obtain ⟨X, hX⟩ : ∃ X, X = w.heap.size := ⟨_, rfl⟩
  obtain ⟨W0, hW0⟩ : ∃ W0, W0 = w.alloc (.cells (inC ⟨o, d, n, m, a, x, (kv : Nat), hh, t, c⟩) 24) := ⟨_, rfl⟩
  have hXl : X < W0.heap.size := by rw [hX, hW0]; simp
  rw [← hW0, ← hX] at hten
  have HW : Hid (Below w.heap.size w W0) := Lib.hid (by rw [hW0]; exact (Below.refl _ w).alloc (Nat.le_refl _) _)
  have HT := Lib.hid hten
  have HB := Lib.hid (Below.refl W0.heap.size W0)
  have HEQ := Lib.hid hW0
  have HXQ := Lib.hid hX
  obtain ⟨a0, a1, a2, a3, a4, a5, a6, a7, a8, a9⟩ := hten
  clear hW0 hX hsz
  obtain ⟨⟨⟨rfl, rfl⟩, rfl⟩, rfl⟩ : ((b1 = true ∧ b2 = true) ∧ b3 = true) ∧ b4 = true := by simpa only [Bool.and_eq_true] using h
  have q0 : ((s : Int) == 0) = false := by rw [beq_eq_false_iff_ne]; omega
  clear h
  go_enter Tryd.func13, Tryd.ntmps13
  go_wp2_with fail
  rw [← HEQ.out, ← HXQ.out]
  go_upto_region 4 with (first | (go_at_call 20; ((with_reducible refine (HSh.out _).mono ?_); rintro e w' ⟨rfl, hb⟩; replace HB := Lib.hid (after HB.out hb); clear hb; clear a0 a1 a2 a3 a4 a5 a6 a7 a8 a9; obtain ⟨a0, a1, a2, a3, a4, a5, a6, a7, a8, a9⟩ := HT.out.below HB.out hXl)) | (go_at_call 32; ((with_reducible refine (HD.out _).mono ?_); rintro e w' ⟨rfl, hb⟩; replace HB := Lib.hid (after HB.out hb); clear hb; clear a0 a1 a2 a3 a4 a5 a6 a7 a8 a9; obtain ⟨a0, a1, a2, a3, a4, a5, a6, a7, a8, a9⟩ := HT.out.below HB.out hXl)) | (go_at_call 32; ((with_reducible refine (HN.out _).mono ?_); rintro e w' ⟨rfl, hb⟩; replace HB := Lib.hid (after HB.out hb); clear hb; clear a0 a1 a2 a3 a4 a5 a6 a7 a8 a9; obtain ⟨a0, a1, a2, a3, a4, a5, a6, a7, a8, a9⟩ := HT.out.below HB.out hXl)) | (go_at_call 32; ((with_reducible refine (HM.out _).mono ?_); rintro e w' ⟨rfl, hb⟩; replace HB := Lib.hid (after HB.out hb); clear hb; clear a0 a1 a2 a3 a4 a5 a6 a7 a8 a9; obtain ⟨a0, a1, a2, a3, a4, a5, a6, a7, a8, a9⟩ := HT.out.below HB.out hXl)) | (go_at_call 32; ((with_reducible refine (HA.out _).mono ?_); rintro e w' ⟨rfl, hb⟩; replace HB := Lib.hid (after HB.out hb); clear hb; clear a0 a1 a2 a3 a4 a5 a6 a7 a8 a9; obtain ⟨a0, a1, a2, a3, a4, a5, a6, a7, a8, a9⟩ := HT.out.below HB.out hXl)))
  go_cut [4] (fun u wx => u = .bool (shiftR s hh) ∧ wx = w')
  case first =>
    cases e0 : (hh == 0)
    · cases p4 : ((s : Int) == 4)
      · cases p5 : ((s : Int) == 5)
        · go_wp2
          go_meet
          exact ⟨by simp_all [shiftR], rfl⟩
        · obtain rfl : s = 5 := by have := eq_of_beq p5; omega
          clear p4 p5
          by_cases g0 : 0 ≤ hh
          · go_wp2
            all_goals go_meet
            all_goals exact ⟨by (simp_all [shiftR] <;> omega), rfl⟩
          · go_wp2
            all_goals go_meet
            all_goals exact ⟨by (simp_all [shiftR] <;> omega), rfl⟩
      · obtain rfl : s = 4 := by have := eq_of_beq p4; omega
        clear p4
        by_cases g0 : 0 ≤ hh
        · go_wp2
          all_goals go_meet
          all_goals exact ⟨by (simp_all [shiftR] <;> omega), rfl⟩
        · go_wp2
          all_goals go_meet
          all_goals exact ⟨by (simp_all [shiftR] <;> omega), rfl⟩
    · go_wp2
      go_meet
      exact ⟨by simp_all [shiftR], rfl⟩
  case rest =>
    obtain ⟨rfl, rfl⟩ := hcut
    generalize shiftR s hh = SH at *
    go_upto_region 5 with (fail)
    go_cut [5] (fun u wx => u = .bool (condR s c) ∧ Below wc.heap.size wc wx)
    case first =>
      have HCO : Hid (condR s c = (c == 0 || (hasR s 99 && decide (0 ≤ c) && decide (c ≤ 13)))) := Lib.hid rfl
      generalize condR s c = CO at *
      generalize hasR s 99 = b5 at *
      cases e0 : (c == 0)
      · cases b5
        · go_wp2_with fail
          refine (HHC.out _).mono ?_
          rintro e w' ⟨rfl, hb⟩
          have HB5 := Lib.hid hb
          replace HB := Lib.hid (after HB.out hb)
          clear hb
          clear a0 a1 a2 a3 a4 a5 a6 a7 a8 a9; obtain ⟨a0, a1, a2, a3, a4, a5, a6, a7, a8, a9⟩ := HT.out.below HB.out hXl
          go_wp2
          go_meet
          exact ⟨by rw [HCO.out, e0]; rfl, HB5.out⟩
        · by_cases g0 : 0 ≤ c
          · go_wp2_with fail
            refine (HHC.out _).mono ?_
            rintro e w' ⟨rfl, hb⟩
            have HB5 := Lib.hid hb
            replace HB := Lib.hid (after HB.out hb)
            clear hb
            clear a0 a1 a2 a3 a4 a5 a6 a7 a8 a9; obtain ⟨a0, a1, a2, a3, a4, a5, a6, a7, a8, a9⟩ := HT.out.below HB.out hXl
            go_wp2
            all_goals go_meet
            all_goals exact ⟨by rw [HCO.out, e0]; (simp_all <;> omega), HB5.out⟩
          · go_wp2_with fail
            refine (HHC.out _).mono ?_
            rintro e w' ⟨rfl, hb⟩
            have HB5 := Lib.hid hb
            replace HB := Lib.hid (after HB.out hb)
            clear hb
            clear a0 a1 a2 a3 a4 a5 a6 a7 a8 a9; obtain ⟨a0, a1, a2, a3, a4, a5, a6, a7, a8, a9⟩ := HT.out.below HB.out hXl
            go_wp2
            all_goals go_meet
            all_goals exact ⟨by rw [HCO.out, e0]; (simp_all <;> omega), HB5.out⟩
      · go_wp2
        go_meet
        exact ⟨by rw [HCO.out, e0]; rfl, Below.refl _ _⟩
    case rest =>
      obtain ⟨rfl, hb⟩ := hcut
      replace HB := Lib.hid (after HB.out hb)
      clear hb
      clear a0 a1 a2 a3 a4 a5 a6 a7 a8 a9; obtain ⟨a0, a1, a2, a3, a4, a5, a6, a7, a8, a9⟩ := HT.out.below HB.out hXl
      generalize condR s c = CO at *
      go_upto_region 6 with (fail)
      go_cut [6] (fun u wx => u = .bool (maskR s kv) ∧ wx = wc)
      case first =>
        by_cases e3 : s = 3
        · subst e3
          have HMA : Hid (maskR (3 : Nat) kv = isS kv) := Lib.hid (by simp [maskR])
          generalize maskR (3 : Nat) kv = MK at *
          generalize isS kv = MS at *
          cases MS
          all_goals
            go_wp2_with (go_at_call 33; ((with_reducible refine (HMK.out _).mono ?_); rintro e w' ⟨rfl, rfl⟩))
            go_meet
            exact ⟨by rw [HMA.out], rfl⟩
        · have p3 : ((s : Int) == 3) = false := by rw [beq_eq_false_iff_ne]; omega
          have p4 : ((s : Int) != 3) = true := by rw [bne_iff_ne]; omega
          have HMA : Hid (maskR s kv = ((kv : Int) == 0)) := Lib.hid (by unfold maskR; rw [p3, p4]; simp)
          generalize maskR s kv = MK at *
          cases e0 : ((kv : Int) == 0)
          all_goals
            go_wp2
            go_meet
            exact ⟨by rw [HMA.out, e0], rfl⟩
      case rest =>
        obtain ⟨rfl, rfl⟩ := hcut
        generalize maskR s kv = MK at *
        generalize refI s s ⟨o, d, n, m, a, x, kv, hh, t, c⟩ = RR at *
        generalize immR s x = IM at *
        generalize amountR s t = AM at *
        cases IM
        · go_wp2_with (first | (go_at_call 34; ((with_reducible refine (HIM.out _).mono ?_); rintro e w' ⟨rfl, rfl⟩)) | (go_at_call 35; ((with_reducible refine (HAM.out _).mono ?_); rintro e w' ⟨rfl, rfl⟩)))
          go_ret
          exact retB_bool (by rw [HREF.out]; rfl) (HW.out.trans (HB.out.mono HW.out.size))
        cases AM
        · go_wp2_with (first | (go_at_call 34; ((with_reducible refine (HIM.out _).mono ?_); rintro e w' ⟨rfl, rfl⟩)) | (go_at_call 35; ((with_reducible refine (HAM.out _).mono ?_); rintro e w' ⟨rfl, rfl⟩)))
          go_ret
          exact retB_bool (by rw [HREF.out]; rfl) (HW.out.trans (HB.out.mono HW.out.size))
        cases SH
        · go_wp2_with (first | (go_at_call 34; ((with_reducible refine (HIM.out _).mono ?_); rintro e w' ⟨rfl, rfl⟩)) | (go_at_call 35; ((with_reducible refine (HAM.out _).mono ?_); rintro e w' ⟨rfl, rfl⟩)))
          go_ret
          exact retB_bool (by rw [HREF.out]; rfl) (HW.out.trans (HB.out.mono HW.out.size))
        cases CO
        · go_wp2_with (first | (go_at_call 34; ((with_reducible refine (HIM.out _).mono ?_); rintro e w' ⟨rfl, rfl⟩)) | (go_at_call 35; ((with_reducible refine (HAM.out _).mono ?_); rintro e w' ⟨rfl, rfl⟩)))
          go_ret
          exact retB_bool (by rw [HREF.out]; rfl) (HW.out.trans (HB.out.mono HW.out.size))
        cases MK
        all_goals
          go_wp2_with (first | (go_at_call 34; ((with_reducible refine (HIM.out _).mono ?_); rintro e w' ⟨rfl, rfl⟩)) | (go_at_call 35; ((with_reducible refine (HAM.out _).mono ?_); rintro e w' ⟨rfl, rfl⟩)))
          go_ret
          exact retB_bool (by rw [HREF.out]; rfl) (HW.out.trans (HB.out.mono HW.out.size))

theorem RIs_any (i : In) (hi : InB i) (w : World) : Calls Tryd.prog 13 #[inV i] w (RetB (.bool (isI i)) w) := by
  have hb := shapeI_b i.op
  obtain ⟨s, hs⟩ := Int.eq_ofNat_of_zero_le hb.1
  by_cases h0 : s = 0
  · subst h0
    have : isI i = false := by unfold isI; rw [hs]; rfl
    rw [this]
    exact RIs_no i w 0 (by omega) hs (.inl rfl)
  · have hE : refI s s i = isI i := by
      have : isI i = (sameI i (ownI s i) && regsI i && numI s i) := by
        unfold isI; rw [hs]
        have : ((s : Int) != 0) = true := by rw [bne_iff_ne]; omega
        rw [this, Bool.true_and]
      rw [this]
      have h2 := hb.2
      have hc : s = 1 ∨ s = 2 ∨ s = 3 ∨ s = 4 ∨ s = 5 ∨ s = 6 ∨ s = 7 ∨ s = 8 ∨ s = 9 ∨ s = 10 ∨ s = 11 ∨ s = 12 ∨ s = 13 ∨ s = 14 ∨ s = 15 ∨ s = 16 := by omega
      rcases hc with rfl | rfl | rfl | rfl | rfl | rfl | rfl | rfl | rfl | rfl | rfl | rfl | rfl | rfl | rfl | rfl
      · exact refI_eq1 i
      · exact refI_eq2 i
      · exact refI_eq3 i
      · exact refI_eq4 i
      · exact refI_eq5 i
      · exact refI_eq6 i
      · exact refI_eq7 i
      · exact refI_eq8 i
      · exact refI_eq9 i
      · exact refI_eq10 i
      · exact refI_eq11 i
      · exact refI_eq12 i
      · exact refI_eq13 i
      · exact refI_eq14 i
      · exact refI_eq15 i
      · exact refI_eq16 i
    cases hr : (regR s 100 i.d && regR s 110 i.n && regR s 109 i.m && regR s 97 i.a)
    · rw [← hE]
      have : refI s s i = false := by unfold refI; rw [hr, Bool.false_and]
      rw [this]
      exact RIs_no i w s (by omega) hs (.inr ⟨by omega, hr⟩)
    · rw [← hE]
      exact RIs_yes i w s (by omega) hs (by omega) hi hr
end Go.Proofs.YtjnmkelppjcofaaDoor
