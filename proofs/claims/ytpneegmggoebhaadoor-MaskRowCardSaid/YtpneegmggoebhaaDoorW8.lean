/- The law MaskRow, walked: where there is a row. -/
import Derived.Test.YtpneegmggoebhaaDoorW8b
namespace Go.Proofs.YtpneegmggoebhaaDoor
set_option linter.unusedVariables false
set_option linter.unusedSimpArgs false
open Go.RowKit

set_option maxRecDepth 100000 in
set_option maxHeartbeats 8000000 in
theorem MaskRow_yes (k s : Nat) (y : Int) (w : World) (hT : Tab w) (hs : isSz s = true) (hk : k ≤ s) :
    Calls Tryd.prog 6 #[.int .i64 k, .int .i64 s, .int .i64 y] w (RetB (.bool true) w) := by
  have HT := Lib.hid hT
  have HB := Lib.hid (Below.refl w.heap.size w)
  have h6 := isSz_nat hs
  have hsl := isSz_le hs
  have hpl := pow_lt64 k (by omega)
  have HS := Lib.hid hs
  have HM : Hid (∀ w, Tab w → Calls Tryd.prog 12 #[] w (RetB (.bool true) w)) := Lib.hid fun w h => masked_any w h
  have HLow : Hid (∀ w, Calls Tryd.prog 20 #[.int .u64 18446744073709551615, .int .i64 k] w (Ret (.int .u64 (2 ^ k - 1 : Nat)) w)) := Lib.hid fun w => lowMax_any k w (by omega)
  have HIr : Hid (∀ w, Tab w → Calls Tryd.prog 13 #[.int .u64 (2 ^ k - 1 : Nat)] w (RetB (.bool (isS (2 ^ k - 1))) w)) := Lib.hid fun w h => Is_any _ w hpl h
  have HIv : Hid (∀ w, Tab w → Calls Tryd.prog 13 #[.int .u64 (agN (2 ^ k - 1) s 64 : Nat)] w (RetB (.bool (isS (agN (2 ^ k - 1) s 64))) w)) := Lib.hid fun w h => Is_any _ w (agN_lt _ _ 64) h
  have H0 : Hid (agN (2 ^ k - 1) s s = 2 ^ k - 1) := Lib.hid (agN_self _ _ (by have := Nat.pow_le_pow_right (show 0 < 2 by decide) hk; have := Nat.two_pow_pos k; omega))
  have e1 := row_is k s hs hk
  have e2 := ones_is k (by omega)
  rw [e1] at HIv
  rw [e2] at HIr
  clear hT e1 e2
  generalize 2 ^ k - 1 = p at *
  clear hs
  by_cases h64 : s < 64
  · have h6' : s = 2 ∨ s = 4 ∨ s = 8 ∨ s = 16 ∨ s = 32 := by omega
    clear h6
    have h12 : k ≤ 0 ∨ (0 < k ∧ s ≤ k) ∨ (0 < k ∧ k < s) := by omega
    rcases h12 with hk0 | ⟨hk0, hk1⟩ | ⟨hk0, hk1⟩ <;> rcases h6' with h | h | h | h | h
    all_goals
      first | have b2 : ((s : Int) != 2) = true := by (rw [bne_iff_ne]; omega) | have b2 : ((s : Int) != 2) = false := by (rw [bne_eq_false_iff_eq]; omega)
      first | have b4 : ((s : Int) != 4) = true := by (rw [bne_iff_ne]; omega) | have b4 : ((s : Int) != 4) = false := by (rw [bne_eq_false_iff_eq]; omega)
      first | have b8 : ((s : Int) != 8) = true := by (rw [bne_iff_ne]; omega) | have b8 : ((s : Int) != 8) = false := by (rw [bne_eq_false_iff_eq]; omega)
      first | have b16 : ((s : Int) != 16) = true := by (rw [bne_iff_ne]; omega) | have b16 : ((s : Int) != 16) = false := by (rw [bne_eq_false_iff_eq]; omega)
      first | have b32 : ((s : Int) != 32) = true := by (rw [bne_iff_ne]; omega) | have b32 : ((s : Int) != 32) = false := by (rw [bne_eq_false_iff_eq]; omega)
      first | have b64 : ((s : Int) != 64) = true := by (rw [bne_iff_ne]; omega) | have b64 : ((s : Int) != 64) = false := by (rw [bne_eq_false_iff_eq]; omega)
      clear h
      go_enter Tryd.func6, Tryd.ntmps6
      go_wp2_with (first | (go_at_call 20; ((with_reducible refine (HLow.out _).mono ?_); rintro e w' ⟨rfl, rfl⟩)))
      go_loop [8, 9] (fun v i => RowRel p s v i) (fun _ i => 64 - (intOf i).toNat)
      case atStart => exact ⟨s, HS.out, Nat.dvd_refl s, rfl, by rw [H0.out]⟩
      case round =>
        obtain ⟨m, hm, hd, rfl, rfl⟩ := hrel
        have hm2 := isSz_le hm
        have HMz := Lib.hid hm
        have HD := Lib.hid hd
        clear hm hd
        by_cases hlt : m < 64
        · have h32 : m ≤ 32 := by have := HMz.out; simp [isSz] at this; omega
          have HE := Lib.hid (add_double p s m HD.out (by omega))
          have l1 : agN p s m < 18446744073709551616 := Nat.lt_of_lt_of_le (agN_lt p s m) (Nat.le_trans (Nat.pow_le_pow_right (by decide) (show m ≤ 64 by omega)) (by decide))
          go_wp2
          go_round
          case rel => exact ⟨2 * m, dbl m HMz.out (by omega), Nat.dvd_trans HD.out (Nat.dvd_mul_left m 2), by go_num, by rw [HE.out]⟩
          case measure => simp [intOf]; omega
        · obtain rfl : m = 64 := by omega
          clear HMz HD
          generalize agN p s 64 = V at *
          go_wp2_with (first | (go_at_call 13; ((with_reducible refine (HIv.out _ (HT.out.below HB.out HT.out.2)).mono ?_); rintro e w' ⟨rfl, hb⟩; replace HB := Lib.hid (after HB.out hb); clear hb)) | (go_at_call 13; ((with_reducible refine (HIr.out _ (HT.out.below HB.out HT.out.2)).mono ?_); rintro e w' ⟨rfl, hb⟩; replace HB := Lib.hid (after HB.out hb); clear hb)) | (go_at_call 12; ((with_reducible refine (HM.out _ (HT.out.below HB.out HT.out.2)).mono ?_); rintro e w' ⟨rfl, hb⟩; replace HB := Lib.hid (after HB.out hb); clear hb)))
          go_ret
          exact ⟨rfl, HB.out⟩
  · have h : s = 64 := by omega
    have h65 : 64 ≤ s := by omega
    have cs : k ≤ 0 ∨ (0 < k ∧ k < 2) ∨ (60 < k ∧ k < s) ∨ (60 < k ∧ s ≤ k) ∨ (2 ≤ k ∧ k ≤ 60 ∧ y ≤ k) ∨ (2 ≤ k ∧ k ≤ 60 ∧ k < y ∧ 63 ≤ y) ∨ (2 ≤ k ∧ k ≤ 60 ∧ k < y ∧ y < 63) := by omega
    clear h6 h64
    rcases cs with g0 | ⟨g0, g1⟩ | ⟨g0, g1⟩ | ⟨g0, g1⟩ | ⟨g0, g1, g2⟩ | ⟨g0, g1, g2, g3⟩ | ⟨g0, g1, g2, g3⟩
    rotate_right 1
    · obtain ⟨b, rfl⟩ := Int.eq_ofNat_of_zero_le (show 0 ≤ y by omega)
      exact MaskRow_two k s b w HT.out HS.out hk h g0 g1 (by omega) (by omega)
    all_goals
      first | have b2 : ((s : Int) != 2) = true := by (rw [bne_iff_ne]; omega) | have b2 : ((s : Int) != 2) = false := by (rw [bne_eq_false_iff_eq]; omega)
      first | have b4 : ((s : Int) != 4) = true := by (rw [bne_iff_ne]; omega) | have b4 : ((s : Int) != 4) = false := by (rw [bne_eq_false_iff_eq]; omega)
      first | have b8 : ((s : Int) != 8) = true := by (rw [bne_iff_ne]; omega) | have b8 : ((s : Int) != 8) = false := by (rw [bne_eq_false_iff_eq]; omega)
      first | have b16 : ((s : Int) != 16) = true := by (rw [bne_iff_ne]; omega) | have b16 : ((s : Int) != 16) = false := by (rw [bne_eq_false_iff_eq]; omega)
      first | have b32 : ((s : Int) != 32) = true := by (rw [bne_iff_ne]; omega) | have b32 : ((s : Int) != 32) = false := by (rw [bne_eq_false_iff_eq]; omega)
      first | have b64 : ((s : Int) != 64) = true := by (rw [bne_iff_ne]; omega) | have b64 : ((s : Int) != 64) = false := by (rw [bne_eq_false_iff_eq]; omega)
      clear h
      go_enter Tryd.func6, Tryd.ntmps6
      go_wp2_with (first | (go_at_call 20; ((with_reducible refine (HLow.out _).mono ?_); rintro e w' ⟨rfl, rfl⟩)))
      go_loop [8, 9] (fun v i => RowRel p s v i) (fun _ i => 64 - (intOf i).toNat)
      case atStart => exact ⟨s, HS.out, Nat.dvd_refl s, rfl, by rw [H0.out]⟩
      case round =>
        obtain ⟨m, hm, hd, rfl, rfl⟩ := hrel
        have hm2 := isSz_le hm
        have HMz := Lib.hid hm
        have HD := Lib.hid hd
        clear hm hd
        by_cases hlt : m < 64
        · have h32 : m ≤ 32 := by have := HMz.out; simp [isSz] at this; omega
          have HE := Lib.hid (add_double p s m HD.out (by omega))
          have l1 : agN p s m < 18446744073709551616 := Nat.lt_of_lt_of_le (agN_lt p s m) (Nat.le_trans (Nat.pow_le_pow_right (by decide) (show m ≤ 64 by omega)) (by decide))
          go_wp2
          go_round
          case rel => exact ⟨2 * m, dbl m HMz.out (by omega), Nat.dvd_trans HD.out (Nat.dvd_mul_left m 2), by go_num, by rw [HE.out]⟩
          case measure => simp [intOf]; omega
        · obtain rfl : m = 64 := by omega
          clear HMz HD
          generalize agN p s 64 = V at *
          go_wp2_with (first | (go_at_call 13; ((with_reducible refine (HIv.out _ (HT.out.below HB.out HT.out.2)).mono ?_); rintro e w' ⟨rfl, hb⟩; replace HB := Lib.hid (after HB.out hb); clear hb)) | (go_at_call 13; ((with_reducible refine (HIr.out _ (HT.out.below HB.out HT.out.2)).mono ?_); rintro e w' ⟨rfl, hb⟩; replace HB := Lib.hid (after HB.out hb); clear hb)) | (go_at_call 12; ((with_reducible refine (HM.out _ (HT.out.below HB.out HT.out.2)).mono ?_); rintro e w' ⟨rfl, hb⟩; replace HB := Lib.hid (after HB.out hb); clear hb)))
          go_ret
          exact ⟨rfl, HB.out⟩

end Go.Proofs.YtpneegmggoebhaaDoor
