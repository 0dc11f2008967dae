/- The laws NumSign and NumSums, walked. -/
import Derived.Test.YtklebljckmkdlaaDoorN8
namespace Go.Proofs.YtklebljckmkdlaaDoor
set_option linter.unusedVariables false
set_option linter.unusedSimpArgs false
open Go.RowKit

theorem sign_far (n : Int) (h0 : -9223372036854775808 ≤ n) (h1 : n ≤ 9223372036854775807) : signS (decide (n < 0)) (farS n) = (n, 0) := by
  by_cases c : n < 0
  · rw [decide_eq_true c, farS1 c, signS1 (by omega)]; simp
  · rw [decide_eq_false c, farS2 c, signS3 (by omega)]
theorem far_b (n : Int) (h0 : -9223372036854775808 ≤ n) (h1 : n ≤ 9223372036854775807) : 0 ≤ farS n ∧ farS n ≤ 9223372036854775808 := by unfold farS; split <;> omega

set_option maxHeartbeats 1000000 in
theorem NumSign_walk (n : Int) (hn : -9223372036854775808 ≤ n ∧ n ≤ 9223372036854775807) (m : Bool) (v : Int) (hv : 0 ≤ v ∧ v < 18446744073709551616) (w : World) (hT : Tab w) :
    Calls Tryd.prog 6 #[.int .i64 n, .bool m, .int .u64 v] w (RetB (.bool true) w) := by
  have HT := Lib.hid hT
  have HB := Lib.hid (Below.refl w.heap.size w)
  obtain ⟨hn0, hn1⟩ := hn
  obtain ⟨hv0, hv1⟩ := hv
  have fb := far_b n hn0 hn1
  have HC : Hid (∀ w, Tab w → Calls Tryd.prog 16 #[] w (RetB (.bool true) w)) := Lib.hid fun w h => counted_any w h
  have HO : Hid (∀ w, Calls Tryd.prog 12 #[.int .i64 n] w (Ret (.tuple #[.bool (decide (n < 0)), .int .u64 (farS n)]) w)) := Lib.hid fun w => Of_any n w hn0 hn1
  have HS : Hid (∀ w, Calls Tryd.prog 10 #[.bool (decide (n < 0)), .int .u64 (farS n)] w (Ret (.tuple #[.int .i64 n, .int .i64 0]) w)) := Lib.hid fun w => by
    have := Signed_any (decide (n < 0)) (farS n) w (by omega) (by omega)
    rwa [sign_far n hn0 hn1] at this
  clear hT fb
  generalize farS n = u at *
  cases m
  · by_cases c : v ≤ 9223372036854775807
    · have H2 : Hid (∀ w, Calls Tryd.prog 10 #[.bool false, .int .u64 v] w (Ret (.tuple #[.int .i64 v, .int .i64 0]) w)) := Lib.hid fun w => by have := Signed_any false v w hv0 hv1; rwa [signS3 c] at this
      have H3 : Hid (∀ w, Calls Tryd.prog 12 #[.int .i64 v] w (Ret (.tuple #[.bool false, .int .u64 v]) w)) := Lib.hid fun w => by have := Of_any v w (by omega) (by omega); rwa [farS2 (by omega), decide_eq_false (by omega)] at this
      by_cases cn : n < 0
      all_goals
        first | rw [decide_eq_true cn] at HO HS | rw [decide_eq_false cn] at HO HS
        go_enter Tryd.func6, Tryd.ntmps6
        go_wp2_with (first | (go_at_call 12; ((with_reducible refine (HO.out _).mono ?_); rintro e w' ⟨rfl, rfl⟩)) | (go_at_call 10; ((with_reducible refine (HS.out _).mono ?_); rintro e w' ⟨rfl, rfl⟩)) | (go_at_call 10; ((with_reducible refine (H2.out _).mono ?_); rintro e w' ⟨rfl, rfl⟩)) | (go_at_call 12; ((with_reducible refine (H3.out _).mono ?_); rintro e w' ⟨rfl, rfl⟩)) | (go_at_call 16; ((with_reducible refine (HC.out _ (HT.out.below HB.out)).mono ?_); rintro e w' ⟨rfl, hb⟩; replace HB := Lib.hid (after HB.out hb); clear hb)))
        all_goals
          go_ret
          exact ⟨rfl, HB.out⟩
    · have H2 : Hid (∀ w, Calls Tryd.prog 10 #[.bool false, .int .u64 v] w (Ret (.tuple #[.int .i64 0, .int .i64 4]) w)) := Lib.hid fun w => by have := Signed_any false v w hv0 hv1; rwa [signS4 c] at this
      have hv2 : 9223372036854775808 ≤ v := by omega
      clear c
      by_cases cn : n < 0
      all_goals
        first | rw [decide_eq_true cn] at HO HS | rw [decide_eq_false cn] at HO HS
        go_enter Tryd.func6, Tryd.ntmps6
        go_wp2_with (first | (go_at_call 12; ((with_reducible refine (HO.out _).mono ?_); rintro e w' ⟨rfl, rfl⟩)) | (go_at_call 10; ((with_reducible refine (HS.out _).mono ?_); rintro e w' ⟨rfl, rfl⟩)) | (go_at_call 10; ((with_reducible refine (H2.out _).mono ?_); rintro e w' ⟨rfl, rfl⟩)) | (go_at_call 16; ((with_reducible refine (HC.out _ (HT.out.below HB.out)).mono ?_); rintro e w' ⟨rfl, hb⟩; replace HB := Lib.hid (after HB.out hb); clear hb)))
        all_goals
          go_ret
          exact ⟨rfl, HB.out⟩
  · by_cases c : v ≤ 9223372036854775808
    · by_cases cz : v = 0
      · subst cz
        have H2 : Hid (∀ w, Calls Tryd.prog 10 #[.bool true, .int .u64 0] w (Ret (.tuple #[.int .i64 0, .int .i64 0]) w)) := Lib.hid fun w => by have := Signed_any true 0 w hv0 hv1; rwa [signS1 c] at this
        have H3 : Hid (∀ w, Calls Tryd.prog 12 #[.int .i64 0] w (Ret (.tuple #[.bool false, .int .u64 0]) w)) := Lib.hid fun w => by have := Of_any 0 w (by omega) (by omega); rwa [farS2 (by omega), decide_eq_false (by omega)] at this
        by_cases cn : n < 0
        all_goals
          first | rw [decide_eq_true cn] at HO HS | rw [decide_eq_false cn] at HO HS
          go_enter Tryd.func6, Tryd.ntmps6
          go_wp2_with (first | (go_at_call 12; ((with_reducible refine (HO.out _).mono ?_); rintro e w' ⟨rfl, rfl⟩)) | (go_at_call 10; ((with_reducible refine (HS.out _).mono ?_); rintro e w' ⟨rfl, rfl⟩)) | (go_at_call 10; ((with_reducible refine (H2.out _).mono ?_); rintro e w' ⟨rfl, rfl⟩)) | (go_at_call 12; ((with_reducible refine (H3.out _).mono ?_); rintro e w' ⟨rfl, rfl⟩)) | (go_at_call 16; ((with_reducible refine (HC.out _ (HT.out.below HB.out)).mono ?_); rintro e w' ⟨rfl, hb⟩; replace HB := Lib.hid (after HB.out hb); clear hb)))
          all_goals
            go_ret
            exact ⟨rfl, HB.out⟩
      · have qz : (v == 0) = false := by rw [beq_eq_false_iff_ne]; exact cz
        obtain ⟨b, H2, H3⟩ : ∃ b : Int, Hid (∀ w, Calls Tryd.prog 10 #[.bool true, .int .u64 v] w (Ret (.tuple #[.int .i64 b, .int .i64 0]) w)) ∧ Hid (∀ w, Calls Tryd.prog 12 #[.int .i64 b] w (Ret (.tuple #[.bool true, .int .u64 v]) w)) :=
          ⟨-v, Lib.hid fun w => by have := Signed_any true v w hv0 hv1; rwa [signS1 c] at this, Lib.hid fun w => by have := Of_any (-v) w (by omega) (by omega); rwa [farS1 (by omega), decide_eq_true (by omega), Int.neg_neg] at this⟩
        clear cz
        by_cases cn : n < 0
        all_goals
          first | rw [decide_eq_true cn] at HO HS | rw [decide_eq_false cn] at HO HS
          go_enter Tryd.func6, Tryd.ntmps6
          go_wp2_with (first | (go_at_call 12; ((with_reducible refine (HO.out _).mono ?_); rintro e w' ⟨rfl, rfl⟩)) | (go_at_call 10; ((with_reducible refine (HS.out _).mono ?_); rintro e w' ⟨rfl, rfl⟩)) | (go_at_call 10; ((with_reducible refine (H2.out _).mono ?_); rintro e w' ⟨rfl, rfl⟩)) | (go_at_call 12; ((with_reducible refine (H3.out _).mono ?_); rintro e w' ⟨rfl, rfl⟩)) | (go_at_call 16; ((with_reducible refine (HC.out _ (HT.out.below HB.out)).mono ?_); rintro e w' ⟨rfl, hb⟩; replace HB := Lib.hid (after HB.out hb); clear hb)))
          all_goals
            go_ret
            exact ⟨rfl, HB.out⟩
    · have H2 : Hid (∀ w, Calls Tryd.prog 10 #[.bool true, .int .u64 v] w (Ret (.tuple #[.int .i64 0, .int .i64 4]) w)) := Lib.hid fun w => by have := Signed_any true v w hv0 hv1; rwa [signS2 c] at this
      have hv2 : 9223372036854775808 ≤ v := by omega
      clear c
      by_cases cn : n < 0
      all_goals
        first | rw [decide_eq_true cn] at HO HS | rw [decide_eq_false cn] at HO HS
        go_enter Tryd.func6, Tryd.ntmps6
        go_wp2_with (first | (go_at_call 12; ((with_reducible refine (HO.out _).mono ?_); rintro e w' ⟨rfl, rfl⟩)) | (go_at_call 10; ((with_reducible refine (HS.out _).mono ?_); rintro e w' ⟨rfl, rfl⟩)) | (go_at_call 10; ((with_reducible refine (H2.out _).mono ?_); rintro e w' ⟨rfl, rfl⟩)) | (go_at_call 16; ((with_reducible refine (HC.out _ (HT.out.below HB.out)).mono ?_); rintro e w' ⟨rfl, hb⟩; replace HB := Lib.hid (after HB.out hb); clear hb)))
        all_goals
          go_ret
          exact ⟨rfl, HB.out⟩

set_option maxHeartbeats 2000000 in
theorem NumSums_walk (a : Int) (ha : 0 ≤ a ∧ a < 18446744073709551616) (y : Int) (hy : -9223372036854775808 ≤ y ∧ y ≤ 9223372036854775807) (z : Int) (hz : -9223372036854775808 ≤ z ∧ z ≤ 9223372036854775807) (w : World) (hT : Tab w) :
    Calls Tryd.prog 7 #[.int .u64 a, .int .i64 y, .int .i64 z] w (RetB (.bool true) w) := by
  have HT := Lib.hid hT
  have HB := Lib.hid (Below.refl w.heap.size w)
  obtain ⟨ha0, ha1⟩ := ha
  obtain ⟨hy0, hy1⟩ := hy
  obtain ⟨hz0, hz1⟩ := hz
  have HC : Hid (∀ w, Tab w → Calls Tryd.prog 16 #[] w (RetB (.bool true) w)) := Lib.hid fun w h => counted_any w h
  have HS1 : Hid (∀ w, Calls Tryd.prog 14 #[.int .u64 a, .int .i64 y] w (Ret (two .u64 .i64 (sumS a y)) w)) := Lib.hid fun w => Sum_any a y w ha0 ha1 hy0 hy1
  have HS2 : Hid (∀ w, Calls Tryd.prog 14 #[.int .u64 a, .int .i64 z] w (Ret (two .u64 .i64 (sumS a z)) w)) := Lib.hid fun w => Sum_any a z w ha0 ha1 hz0 hz1
  clear hT
  by_cases c1 : 0 ≤ a + y ∧ a + y ≤ 18446744073709551615
  · rw [sumS1 c1] at HS1
    have HS3 : Hid (∀ x w, x = -y → y ≠ -9223372036854775808 → Calls Tryd.prog 14 #[.int .u64 (a + y), .int .i64 x] w (Ret (.tuple #[.int .u64 a, .int .i64 0]) w)) := Lib.hid fun x w hx hm => by
      have := Sum_any (a + y) x w (by omega) (by omega) (by omega) (by omega)
      rw [sumS1 (by omega), show a + y + x = a by omega] at this
      exact this
    obtain ⟨s, hs⟩ : ∃ s, s = a + y := ⟨_, rfl⟩
    rw [← hs] at HS1 HS3
    have hs0 : 0 ≤ s := by omega
    have hs1 : s < 18446744073709551616 := by omega
    have cs : (0 ≤ y ∧ a ≤ s ∧ (y != -9223372036854775808) = true) ∨ ((y < 0 ∧ -9223372036854775807 ≤ y) ∧ s < a ∧ (y != -9223372036854775808) = true) ∨ (y < 0 ∧ s < a ∧ (y != -9223372036854775808) = false) := by
      by_cases c : y = -9223372036854775808
      · exact .inr (.inr ⟨by omega, by omega, by rw [bne_eq_false_iff_eq]; exact c⟩)
      · have : (y != -9223372036854775808) = true := by rw [bne_iff_ne]; exact c
        by_cases d : 0 ≤ y
        · exact .inl ⟨d, by omega, this⟩
        · exact .inr (.inl ⟨⟨by omega, by omega⟩, by omega, this⟩)
    by_cases c2 : 0 ≤ a + z ∧ a + z ≤ 18446744073709551615
    · rw [sumS1 c2] at HS2
      obtain ⟨t, ht⟩ : ∃ t, t = a + z := ⟨_, rfl⟩
      rw [← ht] at HS2
      have ht0 : 0 ≤ t := by omega
      have ht1 : t < 18446744073709551616 := by omega
      have ct : (y ≤ z ∧ s ≤ t) ∨ (z < y ∧ t < s) := by omega
      clear hs ht c1 c2
      rcases cs with ⟨d1, d2, d3⟩ | ⟨⟨d1, d4⟩, d2, d3⟩ | ⟨d1, d2, d3⟩ <;> rcases ct with ⟨e1, e2⟩ | ⟨e1, e2⟩
      all_goals
        have D3 := Lib.hid d3
        go_enter Tryd.func7, Tryd.ntmps7
        go_wp2_with (first | (go_at_call 14; ((with_reducible refine (HS1.out _).mono ?_); rintro e w' ⟨rfl, rfl⟩)) | (go_at_call 14; ((with_reducible refine (HS2.out _).mono ?_); rintro e w' ⟨rfl, rfl⟩)) | (go_at_call 14; refine (HS3.out _ _ ?_ ?_).mono ?_; (first | omega | (simp; done) | rfl); (have := D3.out; rw [bne_iff_ne] at this; exact this); rintro e w' ⟨rfl, rfl⟩) | (go_at_call 16; ((with_reducible refine (HC.out _ (HT.out.below HB.out)).mono ?_); rintro e w' ⟨rfl, hb⟩; replace HB := Lib.hid (after HB.out hb); clear hb)))
        all_goals
          go_ret
          exact retB_bool (by first | rfl | (rw [beq_iff_eq, decide_eq_decide]; omega)) HB.out
    · rw [sumS2 c2] at HS2
      clear hs c1 c2
      rcases cs with ⟨d1, d2, d3⟩ | ⟨⟨d1, d4⟩, d2, d3⟩ | ⟨d1, d2, d3⟩
      all_goals
        have D3 := Lib.hid d3
        go_enter Tryd.func7, Tryd.ntmps7
        go_wp2_with (first | (go_at_call 14; ((with_reducible refine (HS1.out _).mono ?_); rintro e w' ⟨rfl, rfl⟩)) | (go_at_call 14; ((with_reducible refine (HS2.out _).mono ?_); rintro e w' ⟨rfl, rfl⟩)) | (go_at_call 14; refine (HS3.out _ _ ?_ ?_).mono ?_; (first | omega | (simp; done) | rfl); (have := D3.out; rw [bne_iff_ne] at this; exact this); rintro e w' ⟨rfl, rfl⟩) | (go_at_call 16; ((with_reducible refine (HC.out _ (HT.out.below HB.out)).mono ?_); rintro e w' ⟨rfl, hb⟩; replace HB := Lib.hid (after HB.out hb); clear hb)))
        all_goals
          go_ret
          exact retB_bool (by first | rfl | (rw [beq_iff_eq, decide_eq_decide]; omega)) HB.out
  · rw [sumS2 c1] at HS1
    have qy : (y != 0) = true := by rw [bne_iff_ne]; omega
    clear c1
    by_cases c2 : 0 ≤ a + z ∧ a + z ≤ 18446744073709551615
    all_goals
      first | rw [sumS1 c2] at HS2 | rw [sumS2 c2] at HS2
      clear c2
      go_enter Tryd.func7, Tryd.ntmps7
      go_wp2_with (first | (go_at_call 14; ((with_reducible refine (HS1.out _).mono ?_); rintro e w' ⟨rfl, rfl⟩)) | (go_at_call 14; ((with_reducible refine (HS2.out _).mono ?_); rintro e w' ⟨rfl, rfl⟩)) | (go_at_call 16; ((with_reducible refine (HC.out _ (HT.out.below HB.out)).mono ?_); rintro e w' ⟨rfl, hb⟩; replace HB := Lib.hid (after HB.out hb); clear hb)))
      all_goals
        go_ret
        exact retB_bool (by first | rfl | (rw [beq_iff_eq, decide_eq_decide]; omega)) HB.out
end Go.Proofs.YtklebljckmkdlaaDoor
