/- The law NumBack, walked. -/
import Derived.Test.YtklebljckmkdlaaDoorN11
import Derived.Lib.Split
import Derived.Lib.RuneLoops
namespace Go.Proofs.YtklebljckmkdlaaDoor
set_option linter.unusedVariables false
set_option linter.unusedSimpArgs false
open Go.RowKit

theorem text_size (u : Nat) (hu : u < 18446744073709551616) : (textB u).size ≤ 20 ∧ 1 ≤ (textB u).size := by
  have h : (textB u).size = (digL 10 u).length := by show (digL 10 u).toArray.size = _; simp
  rw [h]
  have := List.length_pos_iff.2 (digL_ne 10 u)
  exact ⟨dig10_len u hu, by omega⟩
theorem hex_size (u : Nat) (hu : u < 18446744073709551616) : (hexB u).size ≤ 18 ∧ 3 ≤ (hexB u).size := by
  have h : (hexB u).size = (digL 16 u).length + 2 := by show (48 :: 120 :: digL 16 u).toArray.size = _; simp
  rw [h]
  have := List.length_pos_iff.2 (digL_ne 16 u)
  have := dig16_len u hu
  omega
theorem text_first (u : Nat) (h : 0 < (textB u).size) : (((textB u)[0]'h).toNat = 48) ↔ u = 0 := by
  obtain ⟨d, r, e, hd, hz⟩ := digL_head 10 u (by decide) (by decide)
  have : (textB u)[0]'h = dgB d := by
    have : textB u = ⟨(dgB d :: r).toArray⟩ := by unfold textB; rw [e]
    simp only [this]; rfl
  rw [this, dgB_zero d hd, hz]
theorem hex_third (u : Nat) (h : 2 < (hexB u).size) : (((hexB u)[2]'h).toNat = 48) ↔ u = 0 := by
  obtain ⟨d, r, e, hd, hz⟩ := digL_head 16 u (by decide) (by decide)
  have : (hexB u)[2]'h = dgB d := by
    have : hexB u = ⟨(48 :: 120 :: dgB d :: r).toArray⟩ := by unfold hexB; rw [e]
    simp only [this]; rfl
  rw [this, dgB_zero d hd, hz]

set_option maxHeartbeats 2000000 in
theorem NumBack_nat (v : Nat) (w : World) (hv : v < 18446744073709551616) (hT : Tab w) :
    Calls Tryd.prog 4 #[.int .u64 v] w (RetB (.bool true) w) := by
  have HT := Lib.hid hT
  have HB := Lib.hid (Below.refl w.heap.size w)
  have HC : Hid (∀ w, Tab w → Calls Tryd.prog 16 #[] w (RetB (.bool true) w)) := Lib.hid fun w h => counted_any w h
  have H1 : Hid (∀ w, Tab w → Calls Tryd.prog 17 #[.int .u64 v] w (RetB (.string (textB v)) w)) := Lib.hid fun w h => Text_any v w hv h
  have H2 : Hid (∀ w, Tab w → Calls Tryd.prog 19 #[.int .u64 v] w (RetB (.string (hexB v)) w)) := Lib.hid fun w h => Hex_any v w hv h
  have V1 : Hid (∀ w, Calls Tryd.prog 8 #[.string (textB v)] w (RetB (.tuple #[.int .u64 v, .int .i64 0]) w)) := Lib.hid fun w => by have := Value_any (textB v) w; rwa [val_text v hv] at this
  have V2 : Hid (∀ w, Calls Tryd.prog 8 #[.string (hexB v)] w (RetB (.tuple #[.int .u64 v, .int .i64 0]) w)) := Lib.hid fun w => by have := Value_any (hexB v) w; rwa [val_hex v hv] at this
  obtain ⟨a1, a2⟩ := text_size v hv
  obtain ⟨b1, b2⟩ := hex_size v hv
  have e1 : (textB v).toList.isEmpty = false := by rw [Lib.toList_data]; exact List.isEmpty_eq_false_iff.2 (digL_ne 10 v)
  have e2 : ((textB v).toList = []) = False := by rw [Lib.toList_data]; exact eq_false (digL_ne 10 v)
  have k0 : 0 < (textB v).size := by omega
  have k2 : 2 < (hexB v).size := by omega
  have i1 := text_first v k0
  have i2 := hex_third v k2
  have h03 : ((hexB v).extract 0 2).data.toList = [48, 120] := by rw [Lib.extract_from_zero]; rfl
  have H03 := Lib.hid h03
  clear hT h03
  by_cases hz : v = 0
  · have q0 : ((v : Int) == 0) = true := by rw [beq_iff_eq]; omega
    have q1 : ((((textB v)[0]'k0).toNat : Int) == 48) = true := by rw [beq_iff_eq]; have := i1.2 hz; omega
    have q2 : ((((hexB v)[2]'k2).toNat : Int) == 48) = true := by rw [beq_iff_eq]; have := i2.2 hz; omega
    clear i1 i2 hz
    go_enter Tryd.func4, Tryd.ntmps4
    go_wp2_with (first | (go_at_call 17; ((with_reducible refine (H1.out _ (HT.out.below HB.out)).mono ?_); rintro e w' ⟨rfl, hb⟩; replace HB := Lib.hid (after HB.out hb); clear hb)) | (go_at_call 19; ((with_reducible refine (H2.out _ (HT.out.below HB.out)).mono ?_); rintro e w' ⟨rfl, hb⟩; replace HB := Lib.hid (after HB.out hb); clear hb)) | (go_at_call 8; ((with_reducible refine (V1.out _).mono ?_); rintro e w' ⟨rfl, hb⟩; replace HB := Lib.hid (after HB.out hb); clear hb)) | (go_at_call 8; ((with_reducible refine (V2.out _).mono ?_); rintro e w' ⟨rfl, hb⟩; replace HB := Lib.hid (after HB.out hb); clear hb)) | (go_at_call 16; ((with_reducible refine (HC.out _ (HT.out.below HB.out)).mono ?_); rintro e w' ⟨rfl, hb⟩; replace HB := Lib.hid (after HB.out hb); clear hb)))
    go_ret
    exact retB_bool (by rw [Lib.toList_data, H03.out]; rfl) HB.out
  · have q0 : ((v : Int) == 0) = false := by rw [beq_eq_false_iff_ne]; omega
    have q1 : ((((textB v)[0]'k0).toNat : Int) == 48) = false := by rw [beq_eq_false_iff_ne]; intro h; exact hz (i1.1 (by omega))
    have q2 : ((((hexB v)[2]'k2).toNat : Int) == 48) = false := by rw [beq_eq_false_iff_ne]; intro h; exact hz (i2.1 (by omega))
    clear i1 i2 hz
    go_enter Tryd.func4, Tryd.ntmps4
    go_wp2_with (first | (go_at_call 17; ((with_reducible refine (H1.out _ (HT.out.below HB.out)).mono ?_); rintro e w' ⟨rfl, hb⟩; replace HB := Lib.hid (after HB.out hb); clear hb)) | (go_at_call 19; ((with_reducible refine (H2.out _ (HT.out.below HB.out)).mono ?_); rintro e w' ⟨rfl, hb⟩; replace HB := Lib.hid (after HB.out hb); clear hb)) | (go_at_call 8; ((with_reducible refine (V1.out _).mono ?_); rintro e w' ⟨rfl, hb⟩; replace HB := Lib.hid (after HB.out hb); clear hb)) | (go_at_call 8; ((with_reducible refine (V2.out _).mono ?_); rintro e w' ⟨rfl, hb⟩; replace HB := Lib.hid (after HB.out hb); clear hb)) | (go_at_call 16; ((with_reducible refine (HC.out _ (HT.out.below HB.out)).mono ?_); rintro e w' ⟨rfl, hb⟩; replace HB := Lib.hid (after HB.out hb); clear hb)))
    go_ret
    exact retB_bool (by rw [Lib.toList_data, H03.out]; rfl) HB.out
theorem NumBack_walk (a : Int) (h : 0 ≤ a ∧ a < 18446744073709551616) (w : World) (hT : Tab w) : Calls Tryd.prog 4 #[.int .u64 a] w (RetB (.bool true) w) := by
  obtain ⟨v, rfl⟩ := Int.eq_ofNat_of_zero_le h.1
  exact NumBack_nat v w (by omega) hT
end Go.Proofs.YtklebljckmkdlaaDoor
