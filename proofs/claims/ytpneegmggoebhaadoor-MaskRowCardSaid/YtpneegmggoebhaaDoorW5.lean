/- The laws MaskSize, MaskOther, MaskDoes and MaskBack, walked. -/
import Derived.Test.YtpneegmggoebhaaDoorB17
import Derived.Test.YtpneegmggoebhaaDoorK6
namespace Go.Proofs.YtpneegmggoebhaaDoor
set_option linter.unusedVariables false
set_option linter.unusedSimpArgs false
open Go.RowKit

theorem rot_ok (v b : Nat) (w : World) (hv : v < 18446744073709551616) (hb : b < 64) :
    Calls Tryd.prog 19 #[.int .u64 v, .int .i64 b, .int .i64 64] w (Ret (.tuple #[.int .u64 (rot v b : Nat), .int .i64 0]) w) := by
  have h := rotS2 (v := v) (b := b) (s := 64) rfl hb (by have : (2 : Int) ^ 64 = 18446744073709551616 := by decide
                                                         rw [this]; omega)
  have := rotate_any (v : Int) b (64 : Nat) w (by omega) (by omega)
  rw [h] at this
  exact this
theorem rot_no (v : Nat) (y : Int) (w : World) (hv : v < 18446744073709551616) (hb : ¬ (0 ≤ y ∧ y < 64)) :
    Calls Tryd.prog 19 #[.int .u64 v, .int .i64 y, .int .i64 64] w (Ret (.tuple #[.int .u64 0, .int .i64 1]) w) := by
  have := rotate_any (v : Int) y 64 w (by omega) (by omega)
  rw [rotS0 (by omega)] at this
  exact this

set_option maxHeartbeats 1000000 in
theorem MaskSize_nat (v : Nat) (w : World) (hv : v < 18446744073709551616) (hT : Tab w) :
    Calls Tryd.prog 7 #[.int .u64 v] w (RetB (.bool true) w) := by
  have HT := Lib.hid hT
  have HB := Lib.hid (Below.refl w.heap.size w)
  have L := sizeL_least v hv
  have h6 := isSz_nat L.size
  have HM : Hid (∀ w, Tab w → Calls Tryd.prog 12 #[] w (RetB (.bool true) w)) := Lib.hid fun w h => masked_any w h
  have HS : Hid (∀ w, Calls Tryd.prog 15 #[.int .u64 v] w (RetB (.int .i64 (sizeL v : Nat)) w)) := Lib.hid fun w => Size_any v w hv
  have HR1 : Hid (∀ (B : Int) w, B = ((sizeL v % 64 : Nat) : Int) → Calls Tryd.prog 19 #[.int .u64 v, .int .i64 B, .int .i64 64] w (Ret (.tuple #[.int .u64 v, .int .i64 0]) w)) := Lib.hid fun B w h => by
    have := rot_ok v (sizeL v % 64) w hv (Nat.mod_lt _ (by decide))
    rw [rot_size hv] at this
    rw [h]; exact this
  have HR2 : Hid (∀ (B : Int) w, sizeL v ≠ 2 → B = ((sizeL v / 2 : Nat) : Int) → Calls Tryd.prog 19 #[.int .u64 v, .int .i64 B, .int .i64 64] w (Ret (.tuple #[.int .u64 (rot v (sizeL v / 2) : Nat), .int .i64 0]) w)) := Lib.hid fun B w h2 h => by
    have := rot_ok v (sizeL v / 2) w hv (by omega)
    rw [h]; exact this
  have HN : Hid (sizeL v ≠ 2 → (((rot v (sizeL v / 2) : Nat) : Int) != (v : Int)) = true) := Lib.hid fun h => by
    have := rot_half hv h
    rw [bne_iff_ne]; omega
  clear L hT
  generalize rot v (sizeL v / 2) = q at *
  generalize sizeL v = z at *
  rcases h6 with rfl | h6
  · go_enter Tryd.func7, Tryd.ntmps7
    go_wp2_with (first | (go_at_call 15; ((with_reducible refine (HS.out _).mono ?_); rintro e w' ⟨rfl, hb⟩; replace HB := Lib.hid (after HB.out hb); clear hb)))
    refine (HR1.out _ _ rfl).mono ?_
    rintro e w' ⟨rfl, rfl⟩
    go_wp2_with (first | (go_at_call 12; ((with_reducible refine (HM.out _ (HT.out.below HB.out HT.out.2)).mono ?_); rintro e w' ⟨rfl, hb⟩; replace HB := Lib.hid (after HB.out hb); clear hb)))
    go_ret
    exact ⟨rfl, HB.out⟩
  · have HN2 := HN.out (by omega)
    clear HN
    rcases h6 with rfl | rfl | rfl | rfl | rfl
    all_goals
      go_enter Tryd.func7, Tryd.ntmps7
      go_wp2_with (first | (go_at_call 15; ((with_reducible refine (HS.out _).mono ?_); rintro e w' ⟨rfl, hb⟩; replace HB := Lib.hid (after HB.out hb); clear hb)))
      refine (HR1.out _ _ rfl).mono ?_
      rintro e w' ⟨rfl, rfl⟩
      go_wp2_with fail
      refine (HR2.out _ _ (by decide) rfl).mono ?_
      rintro e w' ⟨rfl, rfl⟩
      go_wp2_with (first | (go_at_call 12; ((with_reducible refine (HM.out _ (HT.out.below HB.out HT.out.2)).mono ?_); rintro e w' ⟨rfl, hb⟩; replace HB := Lib.hid (after HB.out hb); clear hb)))
      go_ret
      exact ⟨rfl, HB.out⟩

set_option maxHeartbeats 1000000 in
theorem MaskOther_nat (v : Nat) (y : Int) (w : World) (hv : v < 18446744073709551616) (hT : Tab w) :
    Calls Tryd.prog 5 #[.int .u64 v, .int .i64 y] w (RetB (.bool true) w) := by
  have HT := Lib.hid hT
  have HB := Lib.hid (Below.refl w.heap.size w)
  have ec : (18446744073709551615 - (v : Int)) = ((com v : Nat) : Int) := by unfold com; omega
  have HM : Hid (∀ w, Tab w → Calls Tryd.prog 12 #[] w (RetB (.bool true) w)) := Lib.hid fun w h => masked_any w h
  have HI : Hid (∀ w, Tab w → Calls Tryd.prog 13 #[.int .u64 v] w (RetB (.bool (isS v)) w)) := Lib.hid fun w h => Is_any v w hv h
  have HS : Hid (∀ w, Calls Tryd.prog 15 #[.int .u64 v] w (RetB (.int .i64 (sizeL v : Nat)) w)) := Lib.hid fun w => Size_any v w hv
  have HO : Hid (∀ w, Calls Tryd.prog 17 #[.int .u64 v] w (Ret (.int .i64 (pcN v 64 : Nat)) w)) := Lib.hid fun w => Ones_any v w hv
  have HIc : Hid (∀ w, Tab w → Calls Tryd.prog 13 #[.int .u64 (18446744073709551615 - (v : Int))] w (RetB (.bool (isS v)) w)) := Lib.hid fun w h => by
    have := Is_any (com v) w (com_lt v) h
    rwa [← ec, isS_com hv] at this
  have HSc : Hid (∀ w, Calls Tryd.prog 15 #[.int .u64 (18446744073709551615 - (v : Int))] w (RetB (.int .i64 (sizeL v : Nat)) w)) := Lib.hid fun w => by
    have := Size_any (com v) w (com_lt v)
    rwa [← ec, sizeL_com hv] at this
  have HOc : Hid (∀ w, Calls Tryd.prog 17 #[.int .u64 (18446744073709551615 - (v : Int))] w (Ret (.int .i64 (pcN (com v) 64 : Nat)) w)) := Lib.hid fun w => by
    have := Ones_any (com v) w (com_lt v)
    rwa [← ec] at this
  have hpc := pcN_com hv
  by_cases hy : 0 ≤ y ∧ y < 64
  · obtain ⟨b, rfl⟩ := Int.eq_ofNat_of_zero_le hy.1
    have hb : b < 64 := by omega
    have HR : Hid (∀ w, Calls Tryd.prog 19 #[.int .u64 v, .int .i64 b, .int .i64 64] w (Ret (.tuple #[.int .u64 (rot v b : Nat), .int .i64 0]) w)) := Lib.hid fun w => rot_ok v b w hv hb
    have HIr : Hid (∀ w, Tab w → Calls Tryd.prog 13 #[.int .u64 (rot v b : Nat)] w (RetB (.bool (isS v)) w)) := Lib.hid fun w h => by
      have := Is_any (rot v b) w (rot_lt v b) h
      rwa [isS_rot hv hb] at this
    have HSr : Hid (∀ w, Calls Tryd.prog 15 #[.int .u64 (rot v b : Nat)] w (RetB (.int .i64 (sizeL v : Nat)) w)) := Lib.hid fun w => by
      have := Size_any (rot v b) w (rot_lt v b)
      rwa [sizeL_rot hv hb] at this
    have HOr : Hid (∀ w, Calls Tryd.prog 17 #[.int .u64 (rot v b : Nat)] w (Ret (.int .i64 (pcN v 64 : Nat)) w)) := Lib.hid fun w => by
      have := Ones_any (rot v b) w (rot_lt v b)
      rwa [pcN_rot hb] at this
    have hrl := rot_lt v b
    clear hT hy ec
    generalize rot v b = u at *
    generalize pcN v 64 = p at *
    generalize pcN (com v) 64 = q at *
    generalize sizeL v = z at *
    generalize isS v = t at *
    have hp : p ≤ 64 := by omega
    have hq : q ≤ 64 := by omega
    have hs : (((p : Int) + (q : Int)) != 64) = false := by rw [bne_eq_false_iff_eq]; omega
    clear hpc
    go_enter Tryd.func5, Tryd.ntmps5
    go_wp2_with (first | (go_at_call 13; ((with_reducible refine (HI.out _ (HT.out.below HB.out HT.out.2)).mono ?_); rintro e w' ⟨rfl, hb⟩; replace HB := Lib.hid (after HB.out hb); clear hb)) | (go_at_call 13; ((with_reducible refine (HIc.out _ (HT.out.below HB.out HT.out.2)).mono ?_); rintro e w' ⟨rfl, hb⟩; replace HB := Lib.hid (after HB.out hb); clear hb)) | (go_at_call 13; ((with_reducible refine (HIr.out _ (HT.out.below HB.out HT.out.2)).mono ?_); rintro e w' ⟨rfl, hb⟩; replace HB := Lib.hid (after HB.out hb); clear hb))
                              | (go_at_call 15; ((with_reducible refine (HS.out _).mono ?_); rintro e w' ⟨rfl, hb⟩; replace HB := Lib.hid (after HB.out hb); clear hb)) | (go_at_call 15; ((with_reducible refine (HSc.out _).mono ?_); rintro e w' ⟨rfl, hb⟩; replace HB := Lib.hid (after HB.out hb); clear hb)) | (go_at_call 15; ((with_reducible refine (HSr.out _).mono ?_); rintro e w' ⟨rfl, hb⟩; replace HB := Lib.hid (after HB.out hb); clear hb)) | (go_at_call 17; ((with_reducible refine (HO.out _).mono ?_); rintro e w' ⟨rfl, rfl⟩)) | (go_at_call 17; ((with_reducible refine (HOc.out _).mono ?_); rintro e w' ⟨rfl, rfl⟩)) | (go_at_call 17; ((with_reducible refine (HOr.out _).mono ?_); rintro e w' ⟨rfl, rfl⟩)) | (go_at_call 19; ((with_reducible refine (HR.out _).mono ?_); rintro e w' ⟨rfl, rfl⟩)) | (go_at_call 12; ((with_reducible refine (HM.out _ (HT.out.below HB.out HT.out.2)).mono ?_); rintro e w' ⟨rfl, hb⟩; replace HB := Lib.hid (after HB.out hb); clear hb)))
    go_ret
    exact ⟨rfl, HB.out⟩
  · have HR : Hid (∀ w, Calls Tryd.prog 19 #[.int .u64 v, .int .i64 y, .int .i64 64] w (Ret (.tuple #[.int .u64 0, .int .i64 1]) w)) := Lib.hid fun w => rot_no v y w hv hy
    clear hT hy ec
    generalize pcN v 64 = p at *
    generalize pcN (com v) 64 = q at *
    generalize sizeL v = z at *
    generalize isS v = t at *
    have hp : p ≤ 64 := by omega
    have hq : q ≤ 64 := by omega
    have hs : (((p : Int) + (q : Int)) != 64) = false := by rw [bne_eq_false_iff_eq]; omega
    clear hpc
    go_enter Tryd.func5, Tryd.ntmps5
    go_wp2_with (first | (go_at_call 13; ((with_reducible refine (HI.out _ (HT.out.below HB.out HT.out.2)).mono ?_); rintro e w' ⟨rfl, hb⟩; replace HB := Lib.hid (after HB.out hb); clear hb)) | (go_at_call 13; ((with_reducible refine (HIc.out _ (HT.out.below HB.out HT.out.2)).mono ?_); rintro e w' ⟨rfl, hb⟩; replace HB := Lib.hid (after HB.out hb); clear hb))
                              | (go_at_call 15; ((with_reducible refine (HS.out _).mono ?_); rintro e w' ⟨rfl, hb⟩; replace HB := Lib.hid (after HB.out hb); clear hb)) | (go_at_call 15; ((with_reducible refine (HSc.out _).mono ?_); rintro e w' ⟨rfl, hb⟩; replace HB := Lib.hid (after HB.out hb); clear hb)) | (go_at_call 17; ((with_reducible refine (HO.out _).mono ?_); rintro e w' ⟨rfl, rfl⟩)) | (go_at_call 17; ((with_reducible refine (HOc.out _).mono ?_); rintro e w' ⟨rfl, rfl⟩)) | (go_at_call 19; ((with_reducible refine (HR.out _).mono ?_); rintro e w' ⟨rfl, rfl⟩)) | (go_at_call 12; ((with_reducible refine (HM.out _ (HT.out.below HB.out HT.out.2)).mono ?_); rintro e w' ⟨rfl, hb⟩; replace HB := Lib.hid (after HB.out hb); clear hb)))
    go_ret
    exact ⟨rfl, HB.out⟩

set_option maxHeartbeats 1000000 in
theorem MaskDoes_nat (n r s : Int) (v : Nat) (w : World) (hv : v < 18446744073709551616) (hT : Tab w) :
    Calls Tryd.prog 3 #[.int .i64 n, .int .i64 r, .int .i64 s, .int .u64 v] w (RetB (.bool true) w) := by
  have HT := Lib.hid hT
  have HB := Lib.hid (Below.refl w.heap.size w)
  have HM : Hid (∀ w, Tab w → Calls Tryd.prog 12 #[] w (RetB (.bool true) w)) := Lib.hid fun w h => masked_any w h
  have HI : Hid (∀ w, Tab w → Calls Tryd.prog 13 #[.int .u64 v] w (RetB (.bool (isS v)) w)) := Lib.hid fun w h => Is_any v w hv h
  have HS : Hid (∀ w, Calls Tryd.prog 15 #[.int .u64 v] w (RetB (.int .i64 (sizeL v : Nat)) w)) := Lib.hid fun w => Size_any v w hv
  have HO : Hid (∀ w, Calls Tryd.prog 17 #[.int .u64 v] w (Ret (.int .i64 (pcN v 64 : Nat)) w)) := Lib.hid fun w => Ones_any v w hv
  have HE : Hid (∀ w, Tab w → Calls Tryd.prog 10 #[.int .u64 v] w (RetB (four (encS v)) w)) := Lib.hid fun w h => Encode_any v w hv h
  have HD : Hid (∀ w, Calls Tryd.prog 8 #[.int .i64 n, .int .i64 r, .int .i64 s] w (RetB (two .u64 .i64 (decS n r s)) w)) := Lib.hid fun w => Decode_any n r s w
  have HI' : Hid (∀ w, Calls Tryd.prog 14 #[.int .u64 v] w (Ret (.bool (isS v)) w)) := Lib.hid fun w => refIs_any v w hv
  have HS' : Hid (∀ w, Calls Tryd.prog 16 #[.int .u64 v] w (Ret (.int .i64 (sizeL v : Nat)) w)) := Lib.hid fun w => refSize_any v w hv
  have HO' : Hid (∀ w, Calls Tryd.prog 18 #[.int .u64 v] w (Ret (.int .i64 (pcN v 64 : Nat)) w)) := Lib.hid fun w => refOnes_any v w hv
  have HE' : Hid (∀ w, Calls Tryd.prog 11 #[.int .u64 v] w (Ret (four (encS v)) w)) := Lib.hid fun w => refEncode_any v w hv
  have HD' : Hid (∀ w, Calls Tryd.prog 9 #[.int .i64 n, .int .i64 r, .int .i64 s] w (Ret (two .u64 .i64 (decS n r s)) w)) := Lib.hid fun w => refDecode_any n r s w
  clear hT
  generalize decS n r s = d at *
  generalize encS v = e at *
  generalize pcN v 64 = p at *
  generalize sizeL v = z at *
  generalize isS v = t at *
  obtain ⟨d1, d2⟩ := d
  obtain ⟨e1, e2, e3, e4⟩ := e
  go_enter Tryd.func3, Tryd.ntmps3
  go_wp2_with (first | (go_at_call 8; ((with_reducible refine (HD.out _).mono ?_); rintro e w' ⟨rfl, hb⟩; replace HB := Lib.hid (after HB.out hb); clear hb)) | (go_at_call 9; ((with_reducible refine (HD'.out _).mono ?_); rintro e w' ⟨rfl, rfl⟩)) | (go_at_call 10; ((with_reducible refine (HE.out _ (HT.out.below HB.out HT.out.2)).mono ?_); rintro e w' ⟨rfl, hb⟩; replace HB := Lib.hid (after HB.out hb); clear hb)) | (go_at_call 11; ((with_reducible refine (HE'.out _).mono ?_); rintro e w' ⟨rfl, rfl⟩))
                              | (go_at_call 13; ((with_reducible refine (HI.out _ (HT.out.below HB.out HT.out.2)).mono ?_); rintro e w' ⟨rfl, hb⟩; replace HB := Lib.hid (after HB.out hb); clear hb)) | (go_at_call 14; ((with_reducible refine (HI'.out _).mono ?_); rintro e w' ⟨rfl, rfl⟩)) | (go_at_call 15; ((with_reducible refine (HS.out _).mono ?_); rintro e w' ⟨rfl, hb⟩; replace HB := Lib.hid (after HB.out hb); clear hb)) | (go_at_call 16; ((with_reducible refine (HS'.out _).mono ?_); rintro e w' ⟨rfl, rfl⟩)) | (go_at_call 17; ((with_reducible refine (HO.out _).mono ?_); rintro e w' ⟨rfl, rfl⟩)) | (go_at_call 18; ((with_reducible refine (HO'.out _).mono ?_); rintro e w' ⟨rfl, rfl⟩)) | (go_at_call 12; ((with_reducible refine (HM.out _ (HT.out.below HB.out HT.out.2)).mono ?_); rintro e w' ⟨rfl, hb⟩; replace HB := Lib.hid (after HB.out hb); clear hb)))
  go_ret
  exact ⟨rfl, HB.out⟩
end Go.Proofs.YtpneegmggoebhaaDoor
