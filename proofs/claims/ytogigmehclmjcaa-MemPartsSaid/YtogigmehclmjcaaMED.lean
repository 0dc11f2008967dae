/- The law MemStores. -/
import Derived.Test.YtogigmehclmjcaaMEC
namespace Go.Proofs.Ytogigmehclmjcaa
set_option linter.unusedVariables false
set_option linter.unusedSimpArgs false
open Go.ChangeShapes Go.WideShapes Go.Deep Go.RowKit

set_option maxRecDepth 100000 in
set_option maxHeartbeats 8000000 in
theorem MemStores_walk (W : World) (a : Option Addr) (n c : Nat) (l : List Rg) (hn : n ≤ maxLen) (hg : ∀ r ∈ l, FitR r) (hl : SL rgC 3 W W.heap.size a n l) (x : Int) (hx : 0 ≤ x ∧ x < 18446744073709551616) (m : Int) (hm : -9223372036854775808 ≤ m ∧ m ≤ 9223372036854775807) (v : Int) (hv : 0 ≤ v ∧ v < 18446744073709551616) (y : Int) (hy : 0 ≤ y ∧ y < 18446744073709551616) :
    Calls Try.prog 3 #[.slice a n c, .int .u64 x, .int .i64 m, .int .u64 v, .int .u64 y] W (RetB (.bool true) W) := by
  obtain ⟨x, rfl⟩ : ∃ k : Nat, x = k := ⟨x.toNat, by omega⟩
  obtain ⟨v, rfl⟩ : ∃ k : Nat, v = k := ⟨v.toNat, by omega⟩
  obtain ⟨y, rfl⟩ : ∃ k : Nat, y = k := ⟨y.toNat, by omega⟩
  have HBig := Lib.hid (Big_any a n c l W hl hn (fun r hr => (hg r hr).2))
  have HNew : Hid (n ≤ 20 → Calls Try.prog 7 #[.slice a n c] W (NewP l W)) := Lib.hid (fun h => New_walk a n c l W hl (by omega) (fun r hr => (hg r hr).1) (fun r hr => (hg r hr).2))
  have HKept : Hid (∀ w, Calls Try.prog 8 #[] w (RetB (.bool true) w)) := Lib.hid (fun w => kept_any w)
  have HX := Lib.hid (show x < 18446744073709551616 by omega)
  have HV := Lib.hid (show v < 18446744073709551616 by omega)
  have HY := Lib.hid (show y < 18446744073709551616 by omega)
  clear hl hn hg hx hv hy hm
  go_enter Try.func3, Try.ntmps3
  go_wp2_with fail
  refine HBig.out.mono ?_
  rintro e w1 ⟨b, rfl, hb20, hw⟩
  obtain rfl := hw.symm
  cases b
  · have h20 := hb20 rfl
    have HN := Lib.hid (HNew.out h20)
    clear hb20 HBig HNew
    go_wp2_with fail
    refine HN.out.mono ?_
    rintro e w2 (⟨er, her, rfl, hb, -⟩ | ⟨p, L, rfl, hms, hgo, -, hb⟩)
    · have q1 : (er != 0) = true := by rw [bne_iff_ne]; exact her
      have HB := Lib.hid hb
      clear hb her HN
      go_wp2_with (go_at_call 8; ((with_reducible refine (HKept.out _).mono ?_); rintro e w' ⟨rfl, hb⟩; replace HB := Lib.hid (after HB.out hb); clear hb))
      go_ret
      exact ⟨rfl, HB.out⟩
    · have HB := Lib.hid hb
      have HM := Lib.hid hms
      have HG := Lib.hid hgo
      obtain ⟨L2, hL2⟩ : ∃ L2, L2 = storeA L x m v := ⟨_, rfl⟩
      have HG2 : Hid (Good L2) := Lib.hid (by rw [hL2]; exact good_store hgo x m v)
      obtain ⟨X1, X2, hX⟩ : ∃ X1 X2, loadA L y 1 = (X1, X2) := ⟨_, _, rfl⟩
      obtain ⟨Y1, Y2, hY⟩ : ∃ Y1 Y2, loadA L2 y 1 = (Y1, Y2) := ⟨_, _, rfl⟩
      obtain ⟨Z1, Z2, hZ⟩ : ∃ Z1 Z2, loadA L2 x m = (Z1, Z2) := ⟨_, _, rfl⟩
      obtain ⟨E, hE⟩ : ∃ E, E = storeE L x m := ⟨_, rfl⟩
      have hYX : Y2 = X2 := by have := load_err L x m v y 1; rw [← hL2, hX, hY] at this; exact this
      subst hYX
      have HL1 := fun w (h : MS w W.heap.size p L) => Load_any h HG.out y 1 HY.out
      have HL2 := fun w (h : MS w W.heap.size p L2) => Load_any h HG2.out y 1 HY.out
      have HL3 := fun w (h : MS w W.heap.size p L2) => Load_any h HG2.out x m HX.out
      have HS := fun w (h : MS w W.heap.size p L) => Store_any h HG.out x m v HX.out HV.out
      unfold StoreP at HS
      simp only [hX] at HL1
      simp only [hY] at HL2
      simp only [hZ] at HL3
      simp only [← hL2, ← hE] at HS
      have HBad : Hid (E ≠ 0 → Y1 = X1) := Lib.hid (fun h => by
        rw [hE] at h
        rw [hL2, store_bad L x m v h, hX] at hY
        exact (Prod.mk.inj hY).1.symm)
      have HOwn : Hid (E = 0 → Z1 = (if m = 1 then v % 256 else v) ∧ Z2 = 0 ∧ (m = 1 ∨ m = 8)) := Lib.hid (fun h => by
        rw [hE] at h
        obtain ⟨o1, o2⟩ := load_own L x m v HV.out h
        rw [← hL2, hZ] at o1
        exact ⟨(Prod.mk.inj o1).1, (Prod.mk.inj o1).2, o2⟩)
      have HOth : Hid (¬ (x ≤ y ∧ ((y - x : Nat) : Int) < m) → Y1 = X1) := Lib.hid (fun h => by
        have o1 := load_other L x m v y h
        rw [← hL2, hX, hY] at o1
        exact (Prod.mk.inj o1).1)
      replace HL1 := Lib.hid HL1
      replace HL2 := Lib.hid HL2
      replace HL3 := Lib.hid HL3
      replace HS := Lib.hid HS
      clear hb hms hgo hL2 hX hY hZ hE HN
      go_wp2_with fail
      refine (HL1.out _ HM.out).mono ?_
      rintro e w3 ⟨rfl, hb⟩
      replace HM := Lib.hid (HM.out.below hb)
      replace HB := Lib.hid (after HB.out hb)
      clear hb
      go_wp2_with fail
      refine (HS.out _ HM.out).mono ?_
      rintro e w4 ⟨rfl, hm4, hb⟩
      have HM2 := Lib.hid hm4
      replace HB := Lib.hid (HB.out.trans hb)
      clear hb hm4 HM
      go_wp2_with fail
      refine (HL2.out _ HM2.out).mono ?_
      rintro e w5 ⟨rfl, hb⟩
      replace HM2 := Lib.hid (HM2.out.below hb)
      replace HB := Lib.hid (after HB.out hb)
      clear hb
      go_wp2_with fail
      refine (HL3.out _ HM2.out).mono ?_
      rintro e w6 ⟨rfl, hb⟩
      replace HB := Lib.hid (after HB.out hb)
      clear hb
      by_cases he : E = 0
      · obtain ⟨rfl, rfl, hm⟩ := HOwn.out he
        subst he
        by_cases hxy : x ≤ y
        · obtain ⟨D, hD⟩ : ∃ D, D = y - x := ⟨_, rfl⟩
          have hyx : (y : Int) - x = (D : Int) := by omega
          rw [← hD] at HOth
          have hDb := Lib.hid (show D < 18446744073709551616 by have := HY.out; omega)
          have hDw : IntKind.u64.wrap (D : Int) = (D : Int) := by rw [IntKind.wrap_u64, Int.emod_eq_of_lt (by omega) (by have := hDb.out; omega)]
          clear hD
          by_cases hin : (D : Int) < m
          · rcases hm with rfl | rfl
            all_goals
              go_wp2_with (go_at_call 8; ((with_reducible refine (HKept.out _).mono ?_); rintro e w' ⟨rfl, hb⟩; replace HB := Lib.hid (after HB.out hb); clear hb))
              go_ret
              exact ⟨by simp, HB.out⟩
          · obtain rfl := HOth.out (fun h => hin h.2)
            rcases hm with rfl | rfl
            all_goals
              go_wp2_with (go_at_call 8; ((with_reducible refine (HKept.out _).mono ?_); rintro e w' ⟨rfl, hb⟩; replace HB := Lib.hid (after HB.out hb); clear hb))
              go_ret
              exact ⟨by simp, HB.out⟩
        · obtain rfl := HOth.out (fun h => hxy h.1)
          rcases hm with rfl | rfl
          all_goals
            go_wp2_with (go_at_call 8; ((with_reducible refine (HKept.out _).mono ?_); rintro e w' ⟨rfl, hb⟩; replace HB := Lib.hid (after HB.out hb); clear hb))
            go_ret
            exact ⟨by simp, HB.out⟩
      · obtain rfl := HBad.out he
        have q1 : (E != 0) = true := by rw [bne_iff_ne]; exact he
        clear he
        go_wp2_with (go_at_call 8; ((with_reducible refine (HKept.out _).mono ?_); rintro e w' ⟨rfl, hb⟩; replace HB := Lib.hid (after HB.out hb); clear hb))
        go_ret
        exact ⟨by simp, HB.out⟩
  · go_wp2
    go_ret
    exact ⟨rfl, Below.refl _ _⟩
end Go.Proofs.Ytogigmehclmjcaa
