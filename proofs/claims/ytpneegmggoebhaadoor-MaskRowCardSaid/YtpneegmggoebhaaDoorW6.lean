/- The law MaskBack, walked. -/
import Derived.Test.YtpneegmggoebhaaDoorW5
namespace Go.Proofs.YtpneegmggoebhaaDoor
set_option linter.unusedVariables false
set_option linter.unusedSimpArgs false
open Go.RowKit

theorem back_one (n r s a e : Int) (h : decS n r s = (a, e)) : (e == 0) = false ∨ ∃ A : Nat, a = A ∧ e = 0 ∧ A < 18446744073709551616 ∧ encS A = (n, r, s, 0) ∧ isS A = true := by
  by_cases he : e = 0
  · subst he
    obtain ⟨k, r', s', hp, ha, h1, h2, h3⟩ := dec_pat h
    refine .inr ⟨a.toNat, by omega, rfl, hp.lt, ?_, hp.isS⟩
    rw [hp.encS, h1, h2, h3]
  · exact .inl (by rw [beq_eq_false_iff_ne]; exact he)
theorem back_two (v : Nat) (hv : v < 18446744073709551616) : (encS v = (0, 0, 0, 3) ∧ isS v = false) ∨ ∃ x y z : Int, encS v = (x, y, z, 0) ∧ isS v = true ∧ decS x y z = ((v : Int), 0) := by
  rcases pat_or v hv with ⟨k, r, s, h⟩ | hn
  · exact .inr ⟨_, _, _, h.encS, h.isS, h.decS⟩
  · exact .inl ⟨encS_none hv hn, isS_none hv hn⟩

set_option maxHeartbeats 2000000 in
theorem MaskBack_nat (n r s : Int) (v : Nat) (w : World) (hv : v < 18446744073709551616) (hT : Tab w) :
    Calls Tryd.prog 4 #[.int .i64 n, .int .i64 r, .int .i64 s, .int .u64 v] w (RetB (.bool true) w) := by
  have HT := Lib.hid hT
  have HB := Lib.hid (Below.refl w.heap.size w)
  have HM : Hid (∀ w, Tab w → Calls Tryd.prog 12 #[] w (RetB (.bool true) w)) := Lib.hid fun w h => masked_any w h
  have HI : Hid (∀ w, Tab w → Calls Tryd.prog 13 #[.int .u64 v] w (RetB (.bool (isS v)) w)) := Lib.hid fun w h => Is_any v w hv h
  have HE : Hid (∀ w, Tab w → Calls Tryd.prog 10 #[.int .u64 v] w (RetB (four (encS v)) w)) := Lib.hid fun w h => Encode_any v w hv h
  have HD : Hid (∀ w, Calls Tryd.prog 8 #[.int .i64 n, .int .i64 r, .int .i64 s] w (RetB (two .u64 .i64 (decS n r s)) w)) := Lib.hid fun w => Decode_any n r s w
  have one := back_one n r s (decS n r s).1 (decS n r s).2 rfl
  clear hT
  generalize decS n r s = d at *
  obtain ⟨a, e⟩ := d
  have HO := Lib.hid one
  clear one
  rcases back_two v hv with ⟨he, hi⟩ | ⟨x, y, z, he, hi, hd⟩
  · rw [he] at HE
    rw [hi] at HI
    clear he hi
    rcases HO.out with q | ⟨A, ha, rfl, hA, hae, hai⟩
    · have q' : (e == 0) = false := q
      clear HO
      go_enter Tryd.func4, Tryd.ntmps4
      go_wp2_with (first | (go_at_call 8; ((with_reducible refine (HD.out _).mono ?_); rintro e w' ⟨rfl, hb⟩; replace HB := Lib.hid (after HB.out hb); clear hb)) | (go_at_call 10; ((with_reducible refine (HE.out _ (HT.out.below HB.out HT.out.2)).mono ?_); rintro e w' ⟨rfl, hb⟩; replace HB := Lib.hid (after HB.out hb); clear hb)) | (go_at_call 13; ((with_reducible refine (HI.out _ (HT.out.below HB.out HT.out.2)).mono ?_); rintro e w' ⟨rfl, hb⟩; replace HB := Lib.hid (after HB.out hb); clear hb)) | (go_at_call 12; ((with_reducible refine (HM.out _ (HT.out.below HB.out HT.out.2)).mono ?_); rintro e w' ⟨rfl, hb⟩; replace HB := Lib.hid (after HB.out hb); clear hb)))
      go_ret
      exact ⟨rfl, HB.out⟩
    · obtain rfl : a = A := ha
      have HI2 : Hid (∀ w, Tab w → Calls Tryd.prog 13 #[.int .u64 A] w (RetB (.bool true) w)) := Lib.hid fun w h => by have := Is_any A w hA h; rwa [hai] at this
      have HE2 : Hid (∀ w, Tab w → Calls Tryd.prog 10 #[.int .u64 A] w (RetB (four (n, r, s, 0)) w)) := Lib.hid fun w h => by have := Encode_any A w hA h; rwa [hae] at this
      clear HO hae hai
      go_enter Tryd.func4, Tryd.ntmps4
      go_wp2_with (first | (go_at_call 8; ((with_reducible refine (HD.out _).mono ?_); rintro e w' ⟨rfl, hb⟩; replace HB := Lib.hid (after HB.out hb); clear hb)) | (go_at_call 10; ((with_reducible refine (HE.out _ (HT.out.below HB.out HT.out.2)).mono ?_); rintro e w' ⟨rfl, hb⟩; replace HB := Lib.hid (after HB.out hb); clear hb)) | (go_at_call 13; ((with_reducible refine (HI.out _ (HT.out.below HB.out HT.out.2)).mono ?_); rintro e w' ⟨rfl, hb⟩; replace HB := Lib.hid (after HB.out hb); clear hb)) | (go_at_call 10; ((with_reducible refine (HE2.out _ (HT.out.below HB.out HT.out.2)).mono ?_); rintro e w' ⟨rfl, hb⟩; replace HB := Lib.hid (after HB.out hb); clear hb)) | (go_at_call 13; ((with_reducible refine (HI2.out _ (HT.out.below HB.out HT.out.2)).mono ?_); rintro e w' ⟨rfl, hb⟩; replace HB := Lib.hid (after HB.out hb); clear hb)) | (go_at_call 12; ((with_reducible refine (HM.out _ (HT.out.below HB.out HT.out.2)).mono ?_); rintro e w' ⟨rfl, hb⟩; replace HB := Lib.hid (after HB.out hb); clear hb)))
      go_ret
      exact ⟨rfl, HB.out⟩
  · have HD2 : Hid (∀ w, Calls Tryd.prog 8 #[.int .i64 x, .int .i64 y, .int .i64 z] w (RetB (.tuple #[.int .u64 v, .int .i64 0]) w)) := Lib.hid fun w => by have := Decode_any x y z w; rwa [hd] at this
    rw [he] at HE
    rw [hi] at HI
    clear he hi hd
    rcases HO.out with q | ⟨A, ha, rfl, hA, hae, hai⟩
    · have q' : (e == 0) = false := q
      clear HO
      go_enter Tryd.func4, Tryd.ntmps4
      go_wp2_with (first | (go_at_call 8; ((with_reducible refine (HD.out _).mono ?_); rintro e w' ⟨rfl, hb⟩; replace HB := Lib.hid (after HB.out hb); clear hb)) | (go_at_call 8; ((with_reducible refine (HD2.out _).mono ?_); rintro e w' ⟨rfl, hb⟩; replace HB := Lib.hid (after HB.out hb); clear hb)) | (go_at_call 10; ((with_reducible refine (HE.out _ (HT.out.below HB.out HT.out.2)).mono ?_); rintro e w' ⟨rfl, hb⟩; replace HB := Lib.hid (after HB.out hb); clear hb)) | (go_at_call 13; ((with_reducible refine (HI.out _ (HT.out.below HB.out HT.out.2)).mono ?_); rintro e w' ⟨rfl, hb⟩; replace HB := Lib.hid (after HB.out hb); clear hb)) | (go_at_call 12; ((with_reducible refine (HM.out _ (HT.out.below HB.out HT.out.2)).mono ?_); rintro e w' ⟨rfl, hb⟩; replace HB := Lib.hid (after HB.out hb); clear hb)))
      go_ret
      exact ⟨rfl, HB.out⟩
    · obtain rfl : a = A := ha
      have HI2 : Hid (∀ w, Tab w → Calls Tryd.prog 13 #[.int .u64 A] w (RetB (.bool true) w)) := Lib.hid fun w h => by have := Is_any A w hA h; rwa [hai] at this
      have HE2 : Hid (∀ w, Tab w → Calls Tryd.prog 10 #[.int .u64 A] w (RetB (four (n, r, s, 0)) w)) := Lib.hid fun w h => by have := Encode_any A w hA h; rwa [hae] at this
      clear HO hae hai
      go_enter Tryd.func4, Tryd.ntmps4
      go_wp2_with (first | (go_at_call 8; ((with_reducible refine (HD.out _).mono ?_); rintro e w' ⟨rfl, hb⟩; replace HB := Lib.hid (after HB.out hb); clear hb)) | (go_at_call 8; ((with_reducible refine (HD2.out _).mono ?_); rintro e w' ⟨rfl, hb⟩; replace HB := Lib.hid (after HB.out hb); clear hb)) | (go_at_call 10; ((with_reducible refine (HE.out _ (HT.out.below HB.out HT.out.2)).mono ?_); rintro e w' ⟨rfl, hb⟩; replace HB := Lib.hid (after HB.out hb); clear hb)) | (go_at_call 13; ((with_reducible refine (HI.out _ (HT.out.below HB.out HT.out.2)).mono ?_); rintro e w' ⟨rfl, hb⟩; replace HB := Lib.hid (after HB.out hb); clear hb)) | (go_at_call 10; ((with_reducible refine (HE2.out _ (HT.out.below HB.out HT.out.2)).mono ?_); rintro e w' ⟨rfl, hb⟩; replace HB := Lib.hid (after HB.out hb); clear hb)) | (go_at_call 13; ((with_reducible refine (HI2.out _ (HT.out.below HB.out HT.out.2)).mono ?_); rintro e w' ⟨rfl, hb⟩; replace HB := Lib.hid (after HB.out hb); clear hb)) | (go_at_call 12; ((with_reducible refine (HM.out _ (HT.out.below HB.out HT.out.2)).mono ?_); rintro e w' ⟨rfl, hb⟩; replace HB := Lib.hid (after HB.out hb); clear hb)))
      go_ret
      exact ⟨rfl, HB.out⟩
end Go.Proofs.YtpneegmggoebhaaDoor
