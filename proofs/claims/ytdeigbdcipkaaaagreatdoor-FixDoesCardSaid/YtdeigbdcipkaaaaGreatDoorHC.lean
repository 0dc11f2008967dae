/- fix.Word. fix.Apply, fix.Goal. fix.Goal. The document's rows of layer 26. -/
import Derived.Test.YtdeigbdcipkaaaaGreatDoorH6
import Derived.Test.YtdeigbdcipkaaaaGreatDoorHA
import Derived.Test.YtdeigbdcipkaaaaGreatDoorC13
import Derived.Test.YtdeigbdcipkaaaaGreatDoorHB
import Derived.Deep.QuietTactic
import Derived.BigQuiet
namespace Go.Proofs.YtdeigbdcipkaaaaGreatDoor
set_option linter.unusedVariables false
set_option linter.unusedSimpArgs false
open Go.RowKit

theorem valK_ok {kind f t : Int} (h2 : 2 ≤ kind) (h9 : kind ≤ 9) (h : (valK kind f t).2 = 0) : okV kind (numK kind f t) ∧ (valK kind f t).1 = numK kind f t % 18446744073709551616 := by
  unfold valK at h ⊢
  rw [if_neg (by omega), if_neg (by omega)] at h ⊢
  split at h
  · simp at h
  · rename_i hs
    split at h
    · simp at h
    · rename_i hr
      rw [if_neg hs, if_neg hr]
      exact ⟨⟨h2, h9, by omega, by omega, by omega⟩, rfl⟩
theorem valK_err {kind f t : Int} (h2 : 2 ≤ kind) (h9 : kind ≤ 9) (h : (valK kind f t).2 ≠ 0) : (valK kind f t).1 = 0 ∧ ((valK kind f t).2 = 4 ∨ (valK kind f t).2 = 5) := by
  unfold valK at h ⊢
  rw [if_neg (by omega), if_neg (by omega)] at h ⊢
  split at h
  · rename_i hs; rw [if_pos hs]; simp
  · rename_i hs
    split at h
    · rename_i hr
      rw [if_neg hs, if_pos hr]; simp
    · simp at h
/-- The word with the value of a kind, and the error. -/
def wordK (kind : Int) (x : Nat) (f t : Int) : Int × Int :=
  if kind ≤ 1 ∨ 9 < kind then (0, 1) else if fitsI kind (readW x) = false then (0, 11) else if (valK kind f t).2 ≠ 0 then (0, (valK kind f t).2)
  else (((encW { readW x with imm := numK kind f t } : Nat) : Int), 0)
theorem fits_isI {kind : Int} {i : In} (h : fitsI kind i = true) : isI i = true := by
  unfold fitsI at h; simp only [Bool.and_eq_true] at h; exact h.1.1.1

set_option maxRecDepth 100000 in
set_option maxHeartbeats 4000000 in
theorem word_low (kind f t : Int) (x : Nat) (w : World) (h : kind ≤ 1) : Calls Tryz.prog 6 #[.int .i64 kind, .int .u32 x, .int .u64 f, .int .u64 t] w (RetB (two .u32 .i64 (0, 1)) w) := by
  go_enter Tryz.func6, Tryz.ntmps6
  go_wp2
  go_ret2
  exact ⟨rfl, Below.refl _ _⟩
set_option maxRecDepth 100000 in
set_option maxHeartbeats 4000000 in
theorem word_high (kind f t : Int) (x : Nat) (w : World) (h : 9 < kind) : Calls Tryz.prog 6 #[.int .i64 kind, .int .u32 x, .int .u64 f, .int .u64 t] w (RetB (two .u32 .i64 (0, 1)) w) := by
  have h' : ¬ kind ≤ 1 := by omega
  go_enter Tryz.func6, Tryz.ntmps6
  go_wp2
  go_ret2
  exact ⟨rfl, Below.refl _ _⟩
set_option maxRecDepth 100000 in
set_option maxHeartbeats 8000000 in
theorem word_in (kind f t : Int) (x : Nat) (w : World) (h2 : 2 ≤ kind) (h9 : kind ≤ 9) (hx : x < 4294967296) (f0 : 0 ≤ f) (f1 : f < 18446744073709551616) (t0 : 0 ≤ t) (t1 : t < 18446744073709551616) (hw : Tab7 w) :
    Calls Tryz.prog 6 #[.int .i64 kind, .int .u32 x, .int .u64 f, .int .u64 t] w (RetB (two .u32 .i64 (wordK kind x f t)) w) := by
  have HT := Lib.hid hw
  have HF : Hid (∀ w, Tab7 w → Calls Tryz.prog 17 #[.int .i64 kind, .int .u32 x] w (RetB (.bool (fitsI kind (readW x))) w)) := Lib.hid fun w h => Fits_any kind x w (by omega) (by omega) hx h
  have HV : Hid (∀ w, Calls Tryz.prog 4 #[.int .i64 kind, .int .u64 f, .int .u64 t] w (RetB (two .u64 .i64 (valK kind f t)) w)) := Lib.hid fun w => Value_any kind f t w (by omega) (by omega) f0 f1 t0 t1
  have HB := Lib.hid (Below.refl w.heap.size w)
  have n1 : ¬ kind ≤ 1 := by omega
  have n9 : ¬ 9 < kind := by omega
  cases hf : fitsI kind (readW x)
  · rw [hf] at HF
    have HE : Hid (wordK kind x f t = (0, 11)) := Lib.hid (by unfold wordK; rw [if_neg (by omega), if_pos hf])
    clear hf hw
    go_enter Tryz.func6, Tryz.ntmps6
    go_wp2_with (go_at_call 17; ((with_reducible refine (HF.out _ (HT.out.below HB.out)).mono ?_); rintro e w1 ⟨rfl, hb⟩; replace HB := Lib.hid (after HB.out hb); clear hb))
    go_ret2
    rw [HE.out]
    exact ⟨rfl, HB.out⟩
  · rw [hf] at HF
    by_cases hv : (valK kind f t).2 = 0
    · obtain ⟨hok, hv1⟩ := valK_ok h2 h9 hv
      have hI2 := fits_imm hf hok
      have hI := fits_isI hf
      have hnb := numK_b kind f t f0 f1 t0 t1
      have hwr : wrap64 (numK kind f t % 18446744073709551616) = numK kind f t := by unfold wrap64; omega
      have hib := readW_inB x hx
      have hib2 : InB { readW x with imm := numK kind f t } := ⟨hib.op, hib.d, hib.n, hib.m, hib.a, hnb, hib.mask, hib.shift, hib.amount, hib.cond⟩
      have HD : Hid (∀ w, Tab7 w → Calls Tryz.prog 18 #[.int .u32 x] w (RetB (.tuple #[inV (readW x), .int .i64 0]) w)) := Lib.hid fun w h => by
        have := CDecode_any x hx w h.1
        rwa [show dI x = (readW x, 0) from by unfold dI; rw [hI]; rfl] at this
      have HEn : Hid (∀ w, Tab7 w → Calls Tryz.prog 19 #[inV { readW x with imm := wrap64 (numK kind f t % 18446744073709551616) }] w (RetB (two .u32 .i64 (wordK kind x f t)) w)) := Lib.hid fun w h => by
        have := CEncode_any _ w h.1 hib2
        rw [show encP { readW x with imm := numK kind f t } = wordK kind x f t from by unfold encP wordK; rw [if_pos hI2, if_neg (by omega), if_neg (by rw [hf]; decide), if_neg (by rw [hv]; decide)]] at this
        rw [hwr]; exact this
      have e : valK kind f t = (numK kind f t % 18446744073709551616, 0) := by rw [← hv1, ← hv]
      rw [e] at HV
      have hvb : 0 ≤ numK kind f t % 18446744073709551616 ∧ numK kind f t % 18446744073709551616 < 18446744073709551616 := by omega
      generalize wordK kind x f t = out at *
      generalize numK kind f t % 18446744073709551616 = v at *
      obtain ⟨v0, v1⟩ := hvb
      clear hf hw hv hv1 hI hI2 hnb hwr hib hib2 e hok
      generalize readW x = i at *
      obtain ⟨o, d, n, m, a, y, kk, hh, tt, c⟩ := i
      simp only [] at HEn
      go_enter Tryz.func6, Tryz.ntmps6
      go_wp2_with (first
        | (go_at_call 17; ((with_reducible refine (HF.out _ (HT.out.below HB.out)).mono ?_); rintro e w1 ⟨rfl, hb⟩; replace HB := Lib.hid (after HB.out hb); clear hb))
        | (go_at_call 4; ((with_reducible refine (HV.out _).mono ?_); rintro e w1 ⟨rfl, hb⟩; replace HB := Lib.hid (after HB.out hb); clear hb))
        | (go_at_call 18; ((with_reducible refine (HD.out _ (HT.out.below HB.out)).mono ?_); rintro e w1 ⟨rfl, hb⟩; replace HB := Lib.hid (after HB.out hb); clear hb))
        | (go_at_call 19; ((with_reducible refine (HEn.out _ (HT.out.below (bel_alloc HB.out _))).mono ?_); rintro e w1 ⟨rfl, hb⟩; replace HB := Lib.hid (after (bel_alloc HB.out _) hb); clear hb)))
      go_ret2
      exact ⟨rfl, HB.out⟩
    · obtain ⟨hv1, hv2⟩ := valK_err h2 h9 hv
      have HE : Hid (wordK kind x f t = (0, (valK kind f t).2)) := Lib.hid (by unfold wordK; rw [if_neg (by omega), if_neg (by rw [hf]; decide), if_pos hv])
      have e : valK kind f t = (0, (valK kind f t).2) := by rw [← hv1]
      rw [e] at HV
      generalize (valK kind f t).2 = er at *
      have q : (er != 0) = true := by rw [bne_iff_ne]; exact hv
      clear hf hw hv hv1 e hv2
      go_enter Tryz.func6, Tryz.ntmps6
      go_wp2_with (first
        | (go_at_call 17; ((with_reducible refine (HF.out _ (HT.out.below HB.out)).mono ?_); rintro e w1 ⟨rfl, hb⟩; replace HB := Lib.hid (after HB.out hb); clear hb))
        | (go_at_call 4; ((with_reducible refine (HV.out _).mono ?_); rintro e w1 ⟨rfl, hb⟩; replace HB := Lib.hid (after HB.out hb); clear hb)))
      go_ret2
      rw [HE.out]
      exact ⟨rfl, HB.out⟩
theorem Word_any (kind f t : Int) (x : Nat) (w : World) (k0 : -9223372036854775808 ≤ kind) (k1 : kind ≤ 9223372036854775807) (hx : x < 4294967296) (f0 : 0 ≤ f) (f1 : f < 18446744073709551616) (t0 : 0 ≤ t) (t1 : t < 18446744073709551616) (hw : Tab7 w) :
    Calls Tryz.prog 6 #[.int .i64 kind, .int .u32 x, .int .u64 f, .int .u64 t] w (RetB (two .u32 .i64 (wordK kind x f t)) w) := by
  by_cases h : kind ≤ 1
  · rw [show wordK kind x f t = (0, 1) from by unfold wordK; rw [if_pos (.inl h)]]; exact word_low kind f t x w h
  by_cases h9 : 9 < kind
  · rw [show wordK kind x f t = (0, 1) from by unfold wordK; rw [if_pos (.inr h9)]]; exact word_high kind f t x w h9
  exact word_in kind f t x w (by omega) (by omega) hx f0 f1 t0 t1 hw

abbrev sl (l : List UInt8) : Value := .string ⟨l.toArray⟩
def applyK (kind : Int) (D : List UInt8) (f t : Nat) : List UInt8 × Int :=
  if covK kind D.length = false then ([], 1) else if kind = 1 then (leB 8 t, 0)
  else if (wordK kind (leV D) f t).2 ≠ 0 then ([], (wordK kind (leV D) f t).2) else (leB 4 (wordK kind (leV D) f t).1.toNat, 0)
def goalK (kind : Int) (D : List UInt8) (f : Int) : Int × Int :=
  if covK kind D.length = false ∨ 7 ≤ kind then (0, 1) else if kind = 1 then ((leV D : Nat), 0)
  else if (isI (readW (leV D)) && fitsI kind { readW (leV D) with imm := 0 }) = false then (0, 11)
  else if kind = 6 then ((f - f % 4096 + 4096 * (readW (leV D)).imm) % 18446744073709551616, 0) else ((f + (readW (leV D)).imm) % 18446744073709551616, 0)
theorem cov_range {k : Int} {n : Nat} (h : covK k n = true) : 1 ≤ k ∧ k ≤ 9 ∧ (k = 1 → n = 8) ∧ (k ≠ 1 → n = 4) := by
  unfold covK at h
  simp only [Bool.and_eq_true, decide_eq_true_eq] at h
  obtain ⟨⟨h1, h2⟩, h3⟩ := h
  refine ⟨h1, h2, fun e => ?_, fun e => ?_⟩
  · rw [if_pos e] at h3; exact eq_of_beq h3
  · rw [if_neg e] at h3; exact eq_of_beq h3

set_option maxRecDepth 100000 in
set_option maxHeartbeats 8000000 in
theorem isOf_any (kind : Int) (i : In) (w : World) (k0 : -9223372036854775808 ≤ kind) (k1 : kind ≤ 9223372036854775807) (hi : InB i) (hw : Tab7 w) :
    Calls Tryz.prog 29 #[.int .i64 kind, inV i] w (RetB (.bool (fitsI kind { i with imm := 0 })) w) := by
  have HT := Lib.hid hw
  have hi2 : InB { i with imm := 0 } := ⟨hi.op, hi.d, hi.n, hi.m, hi.a, ⟨by simp, by simp⟩, hi.mask, hi.shift, hi.amount, hi.cond⟩
  have HEn : Hid (∀ w, Tab7 w → Calls Tryz.prog 19 #[inV { i with imm := 0 }] w (RetB (two .u32 .i64 (encP { i with imm := 0 })) w)) := Lib.hid fun w h => CEncode_any _ w h.1 hi2
  have HB := Lib.hid (Below.refl w.heap.size w)
  cases hI : isI { i with imm := 0 }
  · have e : encP { i with imm := 0 } = (0, 1) := by unfold encP; rw [hI]; rfl
    have HE : Hid (fitsI kind { i with imm := 0 } = false) := Lib.hid (by unfold fitsI; rw [hI]; rfl)
    rw [e] at HEn
    clear e hI hi hi2 hw
    obtain ⟨o, d, n, m, a, y, kk, hh, tt, c⟩ := i
    simp only [] at HE HEn
    go_enter Tryz.func29, Tryz.ntmps29
    go_wp2_with (go_at_call 19; ((with_reducible refine (HEn.out _ (HT.out.below (bel_alloc HB.out _))).mono ?_); rintro e w1 ⟨rfl, hb⟩; replace HB := Lib.hid (after (bel_alloc HB.out _) hb); clear hb))
    go_ret
    exact retB_bool (by rw [HE.out]) HB.out
  · obtain ⟨-, hr, -⟩ := dI_enc hI hi2.mask
    obtain ⟨-, -, -, -, hlt, -, -⟩ := encW_spec _ hI hi2.mask
    have e : encP { i with imm := 0 } = (((encW { i with imm := 0 } : Nat) : Int), 0) := by unfold encP; rw [hI]; rfl
    rw [e] at HEn
    have HF : Hid (∀ w, Tab7 w → Calls Tryz.prog 17 #[.int .i64 kind, .int .u32 (encW { i with imm := 0 } : Nat)] w (RetB (.bool (fitsI kind { i with imm := 0 })) w)) := Lib.hid fun w h => by
      have := Fits_any kind (encW { i with imm := 0 }) w k0 k1 hlt h
      rwa [hr] at this
    generalize encW { i with imm := 0 } = ew at *
    clear e hI hi hi2 hw hr hlt
    generalize fitsI kind { i with imm := 0 } = q at *
    obtain ⟨o, d, n, m, a, y, kk, hh, tt, c⟩ := i
    simp only [] at HEn
    go_enter Tryz.func29, Tryz.ntmps29
    go_wp2_with (first
      | (go_at_call 19; ((with_reducible refine (HEn.out _ (HT.out.below (bel_alloc HB.out _))).mono ?_); rintro e w1 ⟨rfl, hb⟩; replace HB := Lib.hid (after (bel_alloc HB.out _) hb); clear hb))
      | (go_at_call 17; ((with_reducible refine (HF.out _ (HT.out.below HB.out)).mono ?_); rintro e w1 ⟨rfl, hb⟩; replace HB := Lib.hid (after HB.out hb); clear hb)))
    go_ret
    exact retB_bool rfl HB.out

set_option maxRecDepth 100000 in
set_option maxHeartbeats 8000000 in
theorem Apply_any (kind : Int) (D : ByteArray) (f t : Nat) (w : World) (k0 : -9223372036854775808 ≤ kind) (k1 : kind ≤ 9223372036854775807) (hD : D.size ≤ 9223372036854775807) (f1 : f < 18446744073709551616) (t1 : t < 18446744073709551616) (hw : Tab7 w) :
    Calls Tryz.prog 8 #[.int .i64 kind, .string D, .int .u64 f, .int .u64 t] w (RetB (.tuple #[sl (applyK kind D.data.toList f t).1, .int .i64 (applyK kind D.data.toList f t).2]) w) := by
  have HT := Lib.hid hw
  have HC : Hid (∀ w, Calls Tryz.prog 23 #[.int .i64 kind, .string D] w (Ret (.bool (covK kind D.size)) w)) := Lib.hid fun w => covers_any kind D w hD
  have HB := Lib.hid (Below.refl w.heap.size w)
  have hl : D.data.toList.length = D.size := Array.length_toList
  cases hc : covK kind D.size
  · have HE : Hid (applyK kind D.data.toList f t = ([], 1)) := Lib.hid (by unfold applyK; rw [hl, if_pos hc])
    rw [hc] at HC
    clear hw hl hc
    go_enter Tryz.func8, Tryz.ntmps8
    go_wp2_with (go_at_call 23; ((with_reducible refine (HC.out _).mono ?_); rintro e w' ⟨rfl, rfl⟩))
    go_ret2
    rw [HE.out]
    exact ⟨rfl, HB.out⟩
  · rw [hc] at HC
    obtain ⟨c1, c9, ce, cn⟩ := cov_range hc
    by_cases hk : kind = 1
    · have HE : Hid (applyK kind D.data.toList f t = (leB 8 t, 0)) := Lib.hid (by unfold applyK; rw [hl, if_neg (by rw [hc]; decide), if_pos hk])
      have HY : Hid (∀ w, Calls Tryz.prog 24 #[.int .u64 (t : Int), .int .i64 8] w (RetB (sl (leB 8 t)) w)) := Lib.hid fun w => bytes8 t w t1
      clear ce cn hc hl hw
      subst hk
      go_enter Tryz.func8, Tryz.ntmps8
      go_wp2_with (first
        | (go_at_call 23; ((with_reducible refine (HC.out _).mono ?_); rintro e w' ⟨rfl, rfl⟩))
        | (go_at_call 24; ((with_reducible refine (HY.out _).mono ?_); rintro e w1 ⟨rfl, hb⟩; replace HB := Lib.hid (after HB.out hb); clear hb)))
      go_ret2
      rw [HE.out]
      exact ⟨rfl, HB.out⟩
    · have h4 := cn hk
      have HN : Hid (∀ w, Calls Tryz.prog 25 #[.string D] w (Ret (.int .u64 ((leV D.data.toList : Nat) : Int)) w)) := Lib.hid fun w => fnumber_any D w (by omega)
      have hlt := leV_lt D.data.toList
      rw [hl, h4] at hlt
      have q : (kind == 1) = false := by rw [beq_eq_false_iff_ne]; exact hk
      have HA : Hid (applyK kind D.data.toList f t = if (wordK kind (leV D.data.toList) f t).2 ≠ 0 then ([], (wordK kind (leV D.data.toList) f t).2) else (leB 4 (wordK kind (leV D.data.toList) f t).1.toNat, 0)) := Lib.hid (by unfold applyK; rw [hl, if_neg (by rw [hc]; decide), if_neg hk])
      have hx : leV D.data.toList < 4294967296 := hlt
      generalize leV D.data.toList = x at *
      have HW : Hid (∀ w, Tab7 w → Calls Tryz.prog 6 #[.int .i64 kind, .int .u32 (x : Int), .int .u64 f, .int .u64 t] w (RetB (two .u32 .i64 (wordK kind x f t)) w)) := Lib.hid fun w h => Word_any kind f t x w k0 k1 hx (by omega) (by omega) (by omega) (by omega) h
      have hwb : 0 ≤ (wordK kind x f t).1 ∧ (wordK kind x f t).1 < 4294967296 := by
        unfold wordK
        split
        · simp
        · split
          · simp
          · rename_i hf
            split
            · simp
            · rename_i hv
              have hf2 : fitsI kind (readW x) = true := by simpa using hf
              have hok := (valK_ok (f := f) (t := t) (by omega) c9 (by simpa using hv)).1
              obtain ⟨-, -, -, -, h5, -, -⟩ := encW_spec _ (fits_imm hf2 hok) (readW_inB x hx).mask
              simp only []; omega
      by_cases he : (wordK kind x f t).2 = 0
      · have HE : Hid (applyK kind D.data.toList f t = (leB 4 (wordK kind x f t).1.toNat, 0)) := Lib.hid (by rw [HA.out, if_neg (by rw [he]; decide)])
        obtain ⟨y, hy⟩ := Int.eq_ofNat_of_zero_le hwb.1
        have hp : wordK kind x f t = ((y : Int), 0) := by rw [← hy, ← he]
        rw [hp] at HW
        rw [hy, Int.toNat_natCast] at HE
        have y1 : y < 4294967296 := by omega
        have HY : Hid (∀ w, Calls Tryz.prog 24 #[.int .u64 (y : Int), .int .i64 4] w (RetB (sl (leB 4 y)) w)) := Lib.hid fun w => bytes4 y w (by omega)
        clear HA hp hy he hwb hlt ce cn hc hl hw hk h4
        go_enter Tryz.func8, Tryz.ntmps8
        go_wp2_with (first
          | (go_at_call 23; ((with_reducible refine (HC.out _).mono ?_); rintro e w' ⟨rfl, rfl⟩))
          | (go_at_call 25; ((with_reducible refine (HN.out _).mono ?_); rintro e w' ⟨rfl, rfl⟩))
          | (go_at_call 6; ((with_reducible refine (HW.out _ (HT.out.below HB.out)).mono ?_); rintro e w1 ⟨rfl, hb⟩; replace HB := Lib.hid (after HB.out hb); clear hb))
          | (go_at_call 24; ((with_reducible refine (HY.out _).mono ?_); rintro e w1 ⟨rfl, hb⟩; replace HB := Lib.hid (after HB.out hb); clear hb)))
        go_ret2
        rw [HE.out]
        exact ⟨rfl, HB.out⟩
      · have HE : Hid (applyK kind D.data.toList f t = ([], (wordK kind x f t).2)) := Lib.hid (by rw [HA.out, if_pos he])
        generalize wordK kind x f t = p at *
        obtain ⟨p1, p2⟩ := p
        simp only [] at HE he
        have q2 : (p2 != 0) = true := by rw [bne_iff_ne]; exact he
        clear HA he hwb hlt ce cn hc hl hw hk h4
        go_enter Tryz.func8, Tryz.ntmps8
        go_wp2_with (first
          | (go_at_call 23; ((with_reducible refine (HC.out _).mono ?_); rintro e w' ⟨rfl, rfl⟩))
          | (go_at_call 25; ((with_reducible refine (HN.out _).mono ?_); rintro e w' ⟨rfl, rfl⟩))
          | (go_at_call 6; ((with_reducible refine (HW.out _ (HT.out.below HB.out)).mono ?_); rintro e w1 ⟨rfl, hb⟩; replace HB := Lib.hid (after HB.out hb); clear hb)))
        go_ret2
        rw [HE.out]
        exact ⟨rfl, HB.out⟩

theorem goal_wrap1 (f y : Int) (f0 : 0 ≤ f) : IntKind.u64.wrap (f + y % 18446744073709551616) = (f + y) % 18446744073709551616 := by rw [IntKind.wrap_u64]; omega
set_option maxRecDepth 100000 in
set_option maxHeartbeats 8000000 in
theorem Goal_no (kind : Int) (D : ByteArray) (f : Int) (w : World) (hD : D.size ≤ 9223372036854775807) (h : covK kind D.size = false ∨ 7 ≤ kind) :
    Calls Tryz.prog 10 #[.int .i64 kind, .string D, .int .u64 f] w (Ret (two .u64 .i64 (0, 1)) w) := by
  have HC : Hid (∀ w, Calls Tryz.prog 23 #[.int .i64 kind, .string D] w (Ret (.bool (covK kind D.size)) w)) := Lib.hid fun w => covers_any kind D w hD
  cases hc : covK kind D.size
  · rw [hc] at HC
    clear h hc
    go_enter Tryz.func10, Tryz.ntmps10
    go_wp2_with (go_at_call 23; ((with_reducible refine (HC.out _).mono ?_); rintro e w' ⟨rfl, rfl⟩))
    go_ret2
    exact ⟨rfl, rfl⟩
  · rw [hc] at HC
    have h7 : 7 ≤ kind := by rcases h with h | h; · rw [hc] at h; cases h
                             · exact h
    clear h hc
    go_enter Tryz.func10, Tryz.ntmps10
    go_wp2_with (go_at_call 23; ((with_reducible refine (HC.out _).mono ?_); rintro e w' ⟨rfl, rfl⟩))
    go_ret2
    exact ⟨rfl, rfl⟩
set_option maxRecDepth 100000 in
set_option maxHeartbeats 8000000 in
theorem Goal_any (kind : Int) (D : ByteArray) (f : Int) (w : World) (k0 : -9223372036854775808 ≤ kind) (k1 : kind ≤ 9223372036854775807) (hD : D.size ≤ 9223372036854775807) (f0 : 0 ≤ f) (f1 : f < 18446744073709551616) (hw : Tab7 w) :
    Calls Tryz.prog 10 #[.int .i64 kind, .string D, .int .u64 f] w (RetB (two .u64 .i64 (goalK kind D.data.toList f)) w) := by
  have hl : D.data.toList.length = D.size := Array.length_toList
  by_cases hno : covK kind D.size = false ∨ 7 ≤ kind
  · rw [show goalK kind D.data.toList f = (0, 1) from by unfold goalK; rw [hl, if_pos hno]]
    exact (Goal_no kind D f w hD hno).mono fun _ _ ⟨h1, h2⟩ => ⟨h1, h2 ▸ Below.refl _ _⟩
  have hc : covK kind D.size = true := by cases h : covK kind D.size; · exact (hno (.inl h)).elim
                                          · rfl
  have h6 : ¬ 7 ≤ kind := fun h => hno (.inr h)
  have HT := Lib.hid hw
  have HC : Hid (∀ w, Calls Tryz.prog 23 #[.int .i64 kind, .string D] w (Ret (.bool true) w)) := Lib.hid fun w => by
    have := covers_any kind D w hD
    rwa [hc] at this
  have HB := Lib.hid (Below.refl w.heap.size w)
  obtain ⟨c1, c9, ce, cn⟩ := cov_range hc
  by_cases hk : kind = 1
  · have HE : Hid (goalK kind D.data.toList f = (((leV D.data.toList : Nat) : Int), 0)) := Lib.hid (by unfold goalK; rw [hl, if_neg hno, if_pos hk])
    have HN : Hid (∀ w, Calls Tryz.prog 25 #[.string D] w (Ret (.int .u64 ((leV D.data.toList : Nat) : Int)) w)) := Lib.hid fun w => fnumber_any D w (by have := ce hk; omega)
    generalize leV D.data.toList = x at *
    clear ce cn hc hl hw hno
    subst hk
    go_enter Tryz.func10, Tryz.ntmps10
    go_wp2_with (first
      | (go_at_call 23; ((with_reducible refine (HC.out _).mono ?_); rintro e w' ⟨rfl, rfl⟩))
      | (go_at_call 25; ((with_reducible refine (HN.out _).mono ?_); rintro e w' ⟨rfl, rfl⟩)))
    go_ret2
    rw [HE.out]
    exact ⟨rfl, HB.out⟩
  · have h4 := cn hk
    have HN : Hid (∀ w, Calls Tryz.prog 25 #[.string D] w (Ret (.int .u64 ((leV D.data.toList : Nat) : Int)) w)) := Lib.hid fun w => fnumber_any D w (by omega)
    have hlt := leV_lt D.data.toList
    rw [hl, h4] at hlt
    have q : (kind == 1) = false := by rw [beq_eq_false_iff_ne]; exact hk
    have HA : Hid (goalK kind D.data.toList f = if (isI (readW (leV D.data.toList)) && fitsI kind { readW (leV D.data.toList) with imm := 0 }) = false then (0, 11)
      else if kind = 6 then ((f - f % 4096 + 4096 * (readW (leV D.data.toList)).imm) % 18446744073709551616, 0) else ((f + (readW (leV D.data.toList)).imm) % 18446744073709551616, 0)) := Lib.hid (by unfold goalK; rw [hl, if_neg hno, if_neg hk])
    have hx : leV D.data.toList < 4294967296 := hlt
    generalize leV D.data.toList = x at *
    have hib := readW_inB x hx
    have HD : Hid (∀ w, Tab7 w → Calls Tryz.prog 18 #[.int .u32 (x : Int)] w (RetB (out2 (dI x)) w)) := Lib.hid fun w h => CDecode_any x hx w h.1
    have HI : Hid (∀ w, Tab7 w → Calls Tryz.prog 29 #[.int .i64 kind, inV (readW x)] w (RetB (.bool (fitsI kind { readW x with imm := 0 })) w)) := Lib.hid fun w h => isOf_any kind (readW x) w k0 k1 hib h
    have HP : Hid (∀ w, Calls Tryz.prog 30 #[.int .u64 f] w (Ret (.int .u64 (f - f % 4096)) w)) := Lib.hid fun w => pageOf_any f w f0 f1
    clear ce cn hc hl hw hno h4 hlt
    cases hI : isI (readW x)
    · have HE : Hid (goalK kind D.data.toList f = (0, 11)) := Lib.hid (by rw [HA.out, hI]; rfl)
      rw [show dI x = (inZ, 11) from by unfold dI; rw [hI]; rfl] at HD
      clear hI HA hib HI hk
      go_enter Tryz.func10, Tryz.ntmps10
      go_wp2_with (first
        | (go_at_call 23; ((with_reducible refine (HC.out _).mono ?_); rintro e w' ⟨rfl, rfl⟩))
        | (go_at_call 25; ((with_reducible refine (HN.out _).mono ?_); rintro e w' ⟨rfl, rfl⟩))
        | (go_at_call 18; ((with_reducible refine (HD.out _ (HT.out.below HB.out)).mono ?_); rintro e w1 ⟨rfl, hb⟩; replace HB := Lib.hid (after HB.out hb); clear hb)))
      go_ret2
      rw [HE.out]
      exact ⟨rfl, bel_alloc HB.out _⟩
    · rw [show dI x = (readW x, 0) from by unfold dI; rw [hI]; rfl] at HD
      rw [hI] at HA
      generalize readW x = i at *
      cases hf : fitsI kind { i with imm := 0 }
      · have HE : Hid (goalK kind D.data.toList f = (0, 11)) := Lib.hid (by rw [HA.out, hf]; rfl)
        rw [hf] at HI
        clear hI HA hib hf hk
        obtain ⟨o, d, n, m, a, y, kk, hh, tt, c⟩ := i
        go_enter Tryz.func10, Tryz.ntmps10
        go_wp2_with (first
          | (go_at_call 23; ((with_reducible refine (HC.out _).mono ?_); rintro e w' ⟨rfl, rfl⟩))
          | (go_at_call 25; ((with_reducible refine (HN.out _).mono ?_); rintro e w' ⟨rfl, rfl⟩))
          | (go_at_call 18; ((with_reducible refine (HD.out _ (HT.out.below HB.out)).mono ?_); rintro e w1 ⟨rfl, hb⟩; replace HB := Lib.hid (after HB.out hb); clear hb))
          | (go_at_call 29; ((with_reducible refine (HI.out _ (HT.out.below (bel_alloc HB.out _))).mono ?_); rintro e w1 ⟨rfl, hb⟩; replace HB := Lib.hid (after (bel_alloc HB.out _) hb); clear hb)))
        go_ret2
        rw [HE.out]
        exact ⟨rfl, HB.out⟩
      · have hib6 := hib.imm
        rw [hf] at HI
        by_cases h6' : kind = 6
        · have HE : Hid (goalK kind D.data.toList f = ((f - f % 4096 + 4096 * i.imm) % 18446744073709551616, 0)) := Lib.hid (by rw [HA.out, hf, if_neg (by decide), if_pos h6'])
          subst h6'
          clear hI HA hib hf hk
          obtain ⟨o, d, n, m, a, y, kk, hh, tt, c⟩ := i
          simp only [] at HE hib6
          unfold i64B at hib6
          have hpb : 0 ≤ f - f % 4096 ∧ f - f % 4096 < 18446744073709551616 := by omega
          generalize f - f % 4096 = pf at *
          go_enter Tryz.func10, Tryz.ntmps10
          go_wp2_with (first
            | (go_at_call 23; ((with_reducible refine (HC.out _).mono ?_); rintro e w' ⟨rfl, rfl⟩))
            | (go_at_call 25; ((with_reducible refine (HN.out _).mono ?_); rintro e w' ⟨rfl, rfl⟩))
            | (go_at_call 18; ((with_reducible refine (HD.out _ (HT.out.below HB.out)).mono ?_); rintro e w1 ⟨rfl, hb⟩; replace HB := Lib.hid (after HB.out hb); clear hb; skip))
            | (go_at_call 29; ((with_reducible refine (HI.out _ (HT.out.below (bel_alloc HB.out _))).mono ?_); rintro e w2 ⟨rfl, hb⟩; have x5 := (hb.cell (p := ⟨w1.heap.size, 5, none⟩) (by simp)).trans (cel (j := 5) (MapKept.heap_alloc w1 _).1); replace HB := Lib.hid (after (bel_alloc HB.out _) hb); clear hb)))
          go_quiet ((go_at_call 30; exact Calls.quiet_of_same ((HP.out _).mono fun _ _ h => ⟨h.1, h.2.symm⟩)))
          go_wp2
          go_ret2
          exact retB_two (a := IntKind.u64.wrap (pf + IntKind.u64.wrap (4096 * IntKind.u64.wrap y))) (b := 0) (by rw [HE.out]; simp only [IntKind.wrap_u64]; congr 1; omega) (below_drewN HB.out _)
        · have q6 : (kind == 6) = false := by rw [beq_eq_false_iff_ne]; exact h6'
          have HE : Hid (goalK kind D.data.toList f = ((f + i.imm) % 18446744073709551616, 0)) := Lib.hid (by rw [HA.out, hf, if_neg (by decide), if_neg h6'])
          clear hI HA hib hf hk h6'
          obtain ⟨o, d, n, m, a, y, kk, hh, tt, c⟩ := i
          simp only [] at HE hib6
          unfold i64B at hib6
          go_enter Tryz.func10, Tryz.ntmps10
          go_wp2_with (first
            | (go_at_call 23; ((with_reducible refine (HC.out _).mono ?_); rintro e w' ⟨rfl, rfl⟩))
            | (go_at_call 25; ((with_reducible refine (HN.out _).mono ?_); rintro e w' ⟨rfl, rfl⟩))
            | (go_at_call 18; ((with_reducible refine (HD.out _ (HT.out.below HB.out)).mono ?_); rintro e w1 ⟨rfl, hb⟩; replace HB := Lib.hid (after HB.out hb); clear hb))
            | (go_at_call 29; ((with_reducible refine (HI.out _ (HT.out.below (bel_alloc HB.out _))).mono ?_); rintro e w2 ⟨rfl, hb⟩; have x5 := (hb.cell (p := ⟨w1.heap.size, 5, none⟩) (by simp)).trans (cel (j := 5) (MapKept.heap_alloc w1 _).1); replace HB := Lib.hid (after (bel_alloc HB.out _) hb); clear hb)))
          go_ret2
          exact retB_two (a := IntKind.u64.wrap (f + IntKind.u64.wrap y)) (b := 0) (by rw [HE.out]; simp only [IntKind.wrap_u64]; congr 1; omega) HB.out

theorem fv1 : valK 6 8192 4100 = (18446744073709551615, 0) := by decide +kernel
theorem fv2 : valK 2 0 2 = (0, 5) := by decide +kernel
theorem fv3 : valK 3 0 1048576 = (0, 4) := by decide +kernel
theorem fv4 : valK 0 0 0 = (0, 1) := by decide +kernel
theorem fa1 : applyK 2 [0, 0, 0, 148] 64 56 = ([254, 255, 255, 151], 0) := by decide +kernel
theorem fa2 : applyK 2 [0, 0, 0, 0] 64 56 = ([], 11) := by decide +kernel
theorem fg1 : goalK 2 [254, 255, 255, 151] 64 = (56, 0) := by decide +kernel
set_option maxRecDepth 100000 in
set_option maxHeartbeats 8000000 in
theorem fixed_any (w : World) (hw : Tab7 w) : Calls Tryz.prog 12 #[] w (RetB (.bool true) w) := by
  have HT := Lib.hid hw
  have HB := Lib.hid (Below.refl w.heap.size w)
  have V1 : Hid (∀ w, Calls Tryz.prog 4 #[.int .i64 6, .int .u64 8192, .int .u64 4100] w (RetB (.tuple #[.int .u64 18446744073709551615, .int .i64 0]) w)) := Lib.hid fun w => by
    have := Value_any 6 8192 4100 w (by decide) (by decide) (by decide) (by decide) (by decide) (by decide)
    rwa [fv1] at this
  have V2 : Hid (∀ w, Calls Tryz.prog 4 #[.int .i64 2, .int .u64 0, .int .u64 2] w (RetB (.tuple #[.int .u64 0, .int .i64 5]) w)) := Lib.hid fun w => by
    have := Value_any 2 0 2 w (by decide) (by decide) (by decide) (by decide) (by decide) (by decide)
    rwa [fv2] at this
  have V3 : Hid (∀ w, Calls Tryz.prog 4 #[.int .i64 3, .int .u64 0, .int .u64 1048576] w (RetB (.tuple #[.int .u64 0, .int .i64 4]) w)) := Lib.hid fun w => by
    have := Value_any 3 0 1048576 w (by decide) (by decide) (by decide) (by decide) (by decide) (by decide)
    rwa [fv3] at this
  have V4 : Hid (∀ w, Calls Tryz.prog 4 #[.int .i64 0, .int .u64 0, .int .u64 0] w (RetB (.tuple #[.int .u64 0, .int .i64 1]) w)) := Lib.hid fun w => by
    have := Value_any 0 0 0 w (by decide) (by decide) (by decide) (by decide) (by decide) (by decide)
    rwa [fv4] at this
  have A1 : Hid (∀ w, Tab7 w → Calls Tryz.prog 8 #[.int .i64 2, .string ⟨#[0, 0, 0, 148]⟩, .int .u64 64, .int .u64 56] w (RetB (.tuple #[.string ⟨#[254, 255, 255, 151]⟩, .int .i64 0]) w)) := Lib.hid fun w h => by
    have := Apply_any 2 ⟨#[0, 0, 0, 148]⟩ 64 56 w (by decide) (by decide) (by decide) (by decide) (by decide) h
    rwa [show applyK 2 (⟨#[0, 0, 0, 148]⟩ : ByteArray).data.toList 64 56 = ([254, 255, 255, 151], 0) from fa1] at this
  have A2 : Hid (∀ w, Tab7 w → Calls Tryz.prog 8 #[.int .i64 2, .string ⟨#[0, 0, 0, 0]⟩, .int .u64 64, .int .u64 56] w (RetB (.tuple #[.string ⟨#[]⟩, .int .i64 11]) w)) := Lib.hid fun w h => by
    have := Apply_any 2 ⟨#[0, 0, 0, 0]⟩ 64 56 w (by decide) (by decide) (by decide) (by decide) (by decide) h
    rwa [show applyK 2 (⟨#[0, 0, 0, 0]⟩ : ByteArray).data.toList 64 56 = ([], 11) from fa2] at this
  have G1 : Hid (∀ w, Tab7 w → Calls Tryz.prog 10 #[.int .i64 2, .string ⟨#[254, 255, 255, 151]⟩, .int .u64 64] w (RetB (.tuple #[.int .u64 56, .int .i64 0]) w)) := Lib.hid fun w h => by
    have := Goal_any 2 ⟨#[254, 255, 255, 151]⟩ 64 w (by decide) (by decide) (by decide) (by decide) (by decide) h
    rwa [show goalK 2 (⟨#[254, 255, 255, 151]⟩ : ByteArray).data.toList 64 = (56, 0) from fg1] at this
  clear hw
  go_enter Tryz.func12, Tryz.ntmps12
  go_wp2_with (first
    | (go_at_call 4; ((with_reducible refine (V1.out _).mono ?_); rintro e w1 ⟨rfl, hb⟩; replace HB := Lib.hid (after HB.out hb); clear hb))
    | (go_at_call 4; ((with_reducible refine (V2.out _).mono ?_); rintro e w1 ⟨rfl, hb⟩; replace HB := Lib.hid (after HB.out hb); clear hb))
    | (go_at_call 4; ((with_reducible refine (V3.out _).mono ?_); rintro e w1 ⟨rfl, hb⟩; replace HB := Lib.hid (after HB.out hb); clear hb))
    | (go_at_call 4; ((with_reducible refine (V4.out _).mono ?_); rintro e w1 ⟨rfl, hb⟩; replace HB := Lib.hid (after HB.out hb); clear hb))
    | (go_at_call 8; ((with_reducible refine (A1.out _ (HT.out.below HB.out)).mono ?_); rintro e w1 ⟨rfl, hb⟩; replace HB := Lib.hid (after HB.out hb); clear hb))
    | (go_at_call 8; ((with_reducible refine (A2.out _ (HT.out.below HB.out)).mono ?_); rintro e w1 ⟨rfl, hb⟩; replace HB := Lib.hid (after HB.out hb); clear hb))
    | (go_at_call 10; ((with_reducible refine (G1.out _ (HT.out.below HB.out)).mono ?_); rintro e w1 ⟨rfl, hb⟩; replace HB := Lib.hid (after HB.out hb); clear hb)))
  go_ret
  exact retB_bool rfl HB.out
end Go.Proofs.YtdeigbdcipkaaaaGreatDoor
