/- The law MaskRow, walked. -/
import Derived.Test.YtpneegmggoebhaaDoorW6
import Derived.Test.YtpneegmggoebhaaDoorK7
import Derived.Outline
namespace Go.Proofs.YtpneegmggoebhaaDoor
set_option linter.unusedVariables false
set_option linter.unusedSimpArgs false
open Go.RowKit

theorem add_double (p s m : Nat) (h : s ∣ m) (hm : 2 * m ≤ 64) :
    IntKind.u64.wrap ((agN p s m : Int) + IntKind.u64.wrap ((agN p s m : Int) * IntKind.u64.wrap (2 ^ m))) = ((agN p s (2 * m) : Nat) : Int) := by
  have l1 := agN_lt p s m
  have e : agN p s m + agN p s m * 2 ^ m = agN p s (2 * m) := by
    rw [← agN_double p s m h, Nat.mul_comm (agN p s m), Nat.or_comm, ← Nat.two_pow_add_eq_or_of_lt l1, Nat.add_comm]
  have l2 : agN p s (2 * m) < 18446744073709551616 := Nat.lt_of_lt_of_le (agN_lt _ _ _) (Nat.le_trans (Nat.pow_le_pow_right (by decide) hm) (by decide))
  have e2 : ((agN p s m : Int) * 2 ^ m) = ((agN p s m * 2 ^ m : Nat) : Int) := by rw [Int.natCast_mul, pow_cast]
  have p1 : (2 : Nat) ^ m < 18446744073709551616 := Nat.lt_of_le_of_lt (Nat.pow_le_pow_right (by decide) (show m ≤ 32 by omega)) (by decide)
  have e3 : IntKind.u64.wrap ((2 : Int) ^ m) = 2 ^ m := by rw [← pow_cast, IntKind.wrap_u64]; omega
  rw [e3, e2, IntKind.wrap_u64, IntKind.wrap_u64]
  omega
theorem lowMax_any (k : Nat) (w : World) (hk : k ≤ 64) :
    Calls Tryd.prog 20 #[.int .u64 18446744073709551615, .int .i64 k] w (Ret (.int .u64 (2 ^ k - 1 : Nat)) w) := by
  by_cases h0 : k = 0
  · subst h0
    have := low_any 18446744073709551615 0 w (by omega) (by omega)
    exact this
  · by_cases h1 : k = 64
    · subst h1
      have := low_natC 18446744073709551615 64 w (by omega) (by omega)
      exact this
    · exact lowOnes_any k w (by omega) (by omega)

set_option maxHeartbeats 2000000 in
theorem MaskRow_no (n s y : Int) (w : World) (hT : Tab w) (h : ¬ (isSz s = true ∧ 0 ≤ n ∧ n ≤ s)) :
    Calls Tryd.prog 6 #[.int .i64 n, .int .i64 s, .int .i64 y] w (RetB (.bool true) w) := by
  have HT := Lib.hid hT
  have HB := Lib.hid (Below.refl w.heap.size w)
  have HM : Hid (∀ w, Tab w → Calls Tryd.prog 12 #[] w (RetB (.bool true) w)) := Lib.hid fun w h => masked_any w h
  clear hT
  by_cases hs : isSz s = true
  · have hsz : s = 2 ∨ s = 4 ∨ s = 8 ∨ s = 16 ∨ s = 32 ∨ s = 64 := by simp [isSz] at hs; omega
    by_cases hn : n < 0
    · clear h hs
      rcases hsz with rfl | rfl | rfl | rfl | rfl | rfl
      all_goals
        go_enter Tryd.func6, Tryd.ntmps6
        go_wp2_with (first | (go_at_call 12; ((with_reducible refine (HM.out _ (HT.out.below HB.out HT.out.2)).mono ?_); rintro e w' ⟨rfl, hb⟩; replace HB := Lib.hid (after HB.out hb); clear hb)))
        go_ret
        exact ⟨rfl, HB.out⟩
    · have hn2 : s < n := by
        apply Classical.byContradiction; intro c; exact h ⟨hs, by omega, by omega⟩
      clear h hs
      rcases hsz with rfl | rfl | rfl | rfl | rfl | rfl
      all_goals
        go_enter Tryd.func6, Tryd.ntmps6
        go_wp2_with (first | (go_at_call 12; ((with_reducible refine (HM.out _ (HT.out.below HB.out HT.out.2)).mono ?_); rintro e w' ⟨rfl, hb⟩; replace HB := Lib.hid (after HB.out hb); clear hb)))
        go_ret
        exact ⟨rfl, HB.out⟩
  · have q : (s != 2) = true ∧ (s != 4) = true ∧ (s != 8) = true ∧ (s != 16) = true ∧ (s != 32) = true ∧ (s != 64) = true := by
      simp [isSz] at hs
      simp only [bne_iff_ne]; omega
    obtain ⟨q1, q2, q3, q4, q5, q6⟩ := q
    clear h hs
    go_enter Tryd.func6, Tryd.ntmps6
    go_wp2_with (first | (go_at_call 12; ((with_reducible refine (HM.out _ (HT.out.below HB.out HT.out.2)).mono ?_); rintro e w' ⟨rfl, hb⟩; replace HB := Lib.hid (after HB.out hb); clear hb)))
    go_ret
    exact ⟨rfl, HB.out⟩
end Go.Proofs.YtpneegmggoebhaaDoor
