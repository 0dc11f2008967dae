/- The law FixOnly, walked. -/
import Derived.Test.YtdeigbdcipkaaaaDoorHC
namespace Go.Proofs.YtdeigbdcipkaaaaDoor
set_option linter.unusedVariables false
set_option linter.unusedSimpArgs false
open Go.RowKit

theorem fits_imm0 {kind : Int} {i : In} (h : fitsI kind i = true) : i.imm = 0 := by
  unfold fitsI at h; simp only [Bool.and_eq_true, beq_iff_eq] at h; exact h.1.1.2
theorem fits_kind {kind : Int} {i : In} (h : fitsI kind i = true) : 2 ≤ kind ∧ kind ≤ 9 := by
  have hI := fits_isI h
  have ho := code_op hI
  unfold fitsI at h
  simp only [Bool.and_eq_true] at h
  rcases fit_cases h.2 ho.1 with ⟨rfl, -⟩ | ⟨rfl, -⟩ | ⟨rfl, -⟩ | ⟨rfl, -⟩ | ⟨rfl, -⟩ | ⟨rfl, -⟩ | ⟨rfl, -⟩ | ⟨rfl, -⟩ | ⟨rfl, -⟩ <;> exact ⟨by decide, by decide⟩
theorem set_imm {i : In} (v : Int) (h : i.imm = 0) : { { i with imm := v } with imm := 0 } = i := by
  obtain ⟨o, d, n, m, a, y, k, hh, t, c⟩ := i
  simp only [] at h
  subst h; rfl
/-- Word's ways: refused, or the word of the instruction with the value. -/
theorem word_ways (kind f t : Int) (x : Nat) (hx : x < 4294967296) :
    (∃ er, wordK kind x f t = (0, er) ∧ er ≠ 0 ∧ (fitsI kind (readW x) = false ∨ (fitsI kind (readW x) = true ∧ (valK kind f t).2 = er))) ∨
    (∃ y : Nat, wordK kind x f t = ((y : Int), 0) ∧ y < 4294967296 ∧ fitsI kind (readW x) = true ∧ valK kind f t = (numK kind f t % 18446744073709551616, 0) ∧ okV kind (numK kind f t) ∧ readW y = { readW x with imm := numK kind f t } ∧ isI (readW y) = true) := by
  by_cases hr : kind ≤ 1 ∨ 9 < kind
  · left
    refine ⟨1, by unfold wordK; rw [if_pos hr], by decide, .inl ?_⟩
    cases h : fitsI kind (readW x)
    · rfl
    · have := fits_kind h; omega
  · cases hf : fitsI kind (readW x)
    · exact .inl ⟨11, by unfold wordK; rw [if_neg hr, if_pos hf], by decide, .inl rfl⟩
    · by_cases hv : (valK kind f t).2 = 0
      · right
        obtain ⟨hok, h1⟩ := valK_ok (by omega) (by omega) hv
        have hI := fits_imm hf hok
        have hm := (readW_inB x hx).mask
        obtain ⟨-, -, -, -, h5, -, -⟩ := encW_spec _ hI hm
        obtain ⟨-, h6, -⟩ := dI_enc hI hm
        refine ⟨encW { readW x with imm := numK kind f t }, ?_, h5, rfl, ?_, hok, h6, by rw [h6]; exact hI⟩
        · unfold wordK; rw [if_neg hr, if_neg (by rw [hf]; decide), if_neg (by rw [hv]; decide)]
        · rw [← h1, ← hv]
      · left
        exact ⟨_, by unfold wordK; rw [if_neg hr, if_neg (by rw [hf]; decide), if_pos hv], hv, .inr ⟨rfl, rfl⟩⟩

set_option maxRecDepth 100000 in
set_option maxHeartbeats 8000000 in
theorem FixOnly_nat (kind : Int) (x0 : Nat) (f t : Int) (w : World) (k0 : -9223372036854775808 ≤ kind) (k1 : kind ≤ 9223372036854775807) (hx : x0 < 4294967296) (f0 : 0 ≤ f) (f1 : f < 18446744073709551616) (t0 : 0 ≤ t) (t1 : t < 18446744073709551616) (hw : Tab7 w) :
    Calls Tryd.prog 4 #[.int .i64 kind, .int .u32 (x0 : Int), .int .u64 f, .int .u64 t] w (RetB (.bool true) w) := by
  have HT := Lib.hid hw
  have HB := Lib.hid (Below.refl w.heap.size w)
  have HF : Hid (∀ w, Tab7 w → Calls Tryd.prog 7 #[] w (RetB (.bool true) w)) := Lib.hid fun w h => fixed_any w h
  have HW : Hid (∀ w, Tab7 w → Calls Tryd.prog 9 #[.int .i64 kind, .int .u32 (x0 : Int), .int .u64 f, .int .u64 t] w (RetB (two .u32 .i64 (wordK kind x0 f t)) w)) := Lib.hid fun w h => Word_any kind f t x0 w k0 k1 hx f0 f1 t0 t1 h
  have HV : Hid (∀ w, Calls Tryd.prog 10 #[.int .i64 kind, .int .u64 f, .int .u64 t] w (RetB (two .u64 .i64 (valK kind f t)) w)) := Lib.hid fun w => Value_any kind f t w k0 k1 f0 f1 t0 t1
  have HP : Hid (∀ w, Tab7 w → Calls Tryd.prog 11 #[.int .i64 kind, .int .u32 (x0 : Int)] w (RetB (.bool (fitsI kind (readW x0))) w)) := Lib.hid fun w h => Fits_any kind x0 w k0 k1 hx h
  rcases word_ways kind f t x0 hx with ⟨er, e1, e2, e3⟩ | ⟨y, e1, e2, e3, e4, e5, e6, e7⟩
  · rw [e1] at HW
    have q : (er != 0) = true := by rw [bne_iff_ne]; exact e2
    rcases e3 with e3 | ⟨e3, e4⟩
    · rw [e3] at HP
      generalize valK kind f t = v at *
      obtain ⟨v1, v2⟩ := v
      clear hw e1 e2 e3
      go_enter Tryd.func4, Tryd.ntmps4
      go_wp2_with (first
        | (go_at_call 9; ((with_reducible refine (HW.out _ (HT.out.below HB.out)).mono ?_); rintro e w1 ⟨rfl, hb⟩; replace HB := Lib.hid (after HB.out hb); clear hb))
        | (go_at_call 10; ((with_reducible refine (HV.out _).mono ?_); rintro e w1 ⟨rfl, hb⟩; replace HB := Lib.hid (after HB.out hb); clear hb))
        | (go_at_call 11; ((with_reducible refine (HP.out _ (HT.out.below HB.out)).mono ?_); rintro e w1 ⟨rfl, hb⟩; replace HB := Lib.hid (after HB.out hb); clear hb))
        | (go_at_call 7; ((with_reducible refine (HF.out _ (HT.out.below HB.out)).mono ?_); rintro e w1 ⟨rfl, hb⟩; replace HB := Lib.hid (after HB.out hb); clear hb)))
      go_ret
      exact retB_bool rfl HB.out
    · rw [e3] at HP
      generalize valK kind f t = v at *
      obtain ⟨v1, v2⟩ := v
      simp only [] at e4
      subst e4
      clear hw e1 e2 e3
      go_enter Tryd.func4, Tryd.ntmps4
      go_wp2_with (first
        | (go_at_call 9; ((with_reducible refine (HW.out _ (HT.out.below HB.out)).mono ?_); rintro e w1 ⟨rfl, hb⟩; replace HB := Lib.hid (after HB.out hb); clear hb))
        | (go_at_call 10; ((with_reducible refine (HV.out _).mono ?_); rintro e w1 ⟨rfl, hb⟩; replace HB := Lib.hid (after HB.out hb); clear hb))
        | (go_at_call 11; ((with_reducible refine (HP.out _ (HT.out.below HB.out)).mono ?_); rintro e w1 ⟨rfl, hb⟩; replace HB := Lib.hid (after HB.out hb); clear hb))
        | (go_at_call 7; ((with_reducible refine (HF.out _ (HT.out.below HB.out)).mono ?_); rintro e w1 ⟨rfl, hb⟩; replace HB := Lib.hid (after HB.out hb); clear hb)))
      go_ret
      exact retB_bool (by simp) HB.out
  · rw [e1] at HW
    rw [e3] at HP
    rw [e4] at HV
    have hnb := numK_b kind f t f0 f1 t0 t1
    have hwr : wrap64 (numK kind f t % 18446744073709551616) = numK kind f t := by unfold wrap64; omega
    have hvb : 0 ≤ numK kind f t % 18446744073709551616 ∧ numK kind f t % 18446744073709551616 < 18446744073709551616 := by omega
    have hib := readW_inB x0 hx
    have hib2 := readW_inB y e2
    have hI := fits_isI e3
    have h0 := fits_imm0 e3
    have hsi := set_imm (numK kind f t) h0
    have HD : Hid (∀ w, Tab7 w → Calls Tryd.prog 12 #[.int .u32 (y : Int)] w (RetB (.tuple #[inV { readW x0 with imm := wrap64 (numK kind f t % 18446744073709551616) }, .int .i64 0]) w)) := Lib.hid fun w h => by
      have := CDecode_any y e2 w h.1
      rw [show dI y = (readW y, 0) from by unfold dI; rw [e7]; rfl] at this
      rw [hwr, ← e6]; exact this
    have HEn : Hid (∀ w, Tab7 w → Calls Tryd.prog 13 #[inV { readW x0 with imm := 0 }] w (RetB (.tuple #[.int .u32 (x0 : Int), .int .i64 0]) w)) := Lib.hid fun w h => by
      have hr : { readW x0 with imm := 0 } = readW x0 := hsi
      rw [hr]
      have := CEncode_any _ w h.1 hib
      rwa [show encP (readW x0) = ((x0 : Int), 0) from by unfold encP; rw [if_pos hI, dI_ok hI hx]] at this
    have HQ : ((wrap64 (numK kind f t % 18446744073709551616) : Int) != wrap64 (numK kind f t % 18446744073709551616)) = false := by simp
    generalize numK kind f t % 18446744073709551616 = v at *
    obtain ⟨v0, v1⟩ := hvb
    clear hw e1 e3 e4 e5 e6 e7 hnb hwr hib hib2 hI h0 hsi
    generalize readW x0 = i at *
    obtain ⟨o, d, n, m, a, z, kk, hh, tt, c⟩ := i
    simp only [] at HD HEn
    go_enter Tryd.func4, Tryd.ntmps4
    go_wp2_with (first
      | (go_at_call 9; ((with_reducible refine (HW.out _ (HT.out.below HB.out)).mono ?_); rintro e w1 ⟨rfl, hb⟩; replace HB := Lib.hid (after HB.out hb); clear hb))
      | (go_at_call 10; ((with_reducible refine (HV.out _).mono ?_); rintro e w1 ⟨rfl, hb⟩; replace HB := Lib.hid (after HB.out hb); clear hb))
      | (go_at_call 11; ((with_reducible refine (HP.out _ (HT.out.below HB.out)).mono ?_); rintro e w1 ⟨rfl, hb⟩; replace HB := Lib.hid (after HB.out hb); clear hb))
      | (go_at_call 12; ((with_reducible refine (HD.out _ (HT.out.below HB.out)).mono ?_); rintro e w2 ⟨rfl, hb⟩; replace HB := Lib.hid (after HB.out hb); clear hb))
      | (go_at_call 13; ((with_reducible refine (HEn.out _ (HT.out.below (bel_alloc HB.out _))).mono ?_); rintro e w3 ⟨rfl, hb⟩; replace HB := Lib.hid (after (bel_alloc HB.out _) hb); clear hb))
      | (go_at_call 7; ((with_reducible refine (HF.out _ (HT.out.below HB.out)).mono ?_); rintro e w1 ⟨rfl, hb⟩; replace HB := Lib.hid (after HB.out hb); clear hb)))
    go_ret
    exact retB_bool (by simp) HB.out
theorem FixOnly_walk (kind : Int) (hk : -9223372036854775808 ≤ kind ∧ kind ≤ 9223372036854775807) (x : Int) (hx : 0 ≤ x ∧ x < 4294967296) (f : Int) (hf : 0 ≤ f ∧ f < 18446744073709551616) (t : Int) (ht : 0 ≤ t ∧ t < 18446744073709551616) (w : World) (hw : Tab7 w) :
    Calls Tryd.prog 4 #[.int .i64 kind, .int .u32 x, .int .u64 f, .int .u64 t] w (RetB (.bool true) w) := by
  obtain ⟨x0, rfl⟩ := Int.eq_ofNat_of_zero_le hx.1
  exact FixOnly_nat kind x0 f t w hk.1 hk.2 (by omega) hf.1 hf.2 ht.1 ht.2 hw
end Go.Proofs.YtdeigbdcipkaaaaDoor
