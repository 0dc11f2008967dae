/- PartNew's reference: names. -/
import Derived.Test.YtmlofdolenmkoaaGreatDoorkRC
import Derived.Test.YtmlofdolenmkoaaGreatDoorkXA
namespace Go.Proofs.YtmlofdolenmkoaaGreatDoor
set_option linter.unusedVariables false
set_option linter.unusedSimpArgs false
open Go.ChangeShapes Go.WideShapes Go.Deep Go.RowKit

set_option maxHeartbeats 1000000 in
theorem rLetter_any (x : Nat) (w : World) : Calls Tryz.prog 164 #[.int .u8 (x : Int)] w (Ret (.bool (letterI x)) w) := by
  go_enter Tryz.func164, Tryz.ntmps164
  go_wp2
  all_goals
    go_ret
    refine ret_bool ?_
    unfold letterI
    first | (simp_all; done) | (simp_all; omega) | (rw [Bool.eq_iff_iff]; simp; omega)
theorem rDigit_any (x : Nat) (w : World) : Calls Tryz.prog 182 #[.int .u8 (x : Int)] w (Ret (.bool (digI x)) w) := by
  go_enter Tryz.func182, Tryz.ntmps182
  go_wp2
  all_goals
    go_ret
    refine ret_bool ?_
    unfold digI
    first | (simp_all; done) | (simp_all; omega) | (rw [Bool.eq_iff_iff]; simp; omega)
/-- How many bytes of a word stand in front. -/
def runL : List UInt8 → Nat
  | [] => 0
  | b :: t => if wordB b = true then runL t + 1 else 0
theorem runL_le : ∀ l : List UInt8, runL l ≤ l.length
  | [] => Nat.le_refl _
  | b :: t => by
    unfold runL
    split
    · have := runL_le t; simp only [List.length_cons]; omega
    · omega
theorem runL_all : ∀ l : List UInt8, runL l = l.length ↔ l.all wordB = true
  | [] => by simp [runL]
  | b :: t => by
    unfold runL
    rw [List.all_cons, Bool.and_eq_true, ← runL_all t]
    split
    · rename_i h; simp only [List.length_cons]; constructor
      · intro e; exact ⟨h, by omega⟩
      · rintro ⟨-, e⟩; omega
    · rename_i h; simp only [List.length_cons]; constructor
      · intro e; omega
      · rintro ⟨e, -⟩; exact absurd e h
set_option maxRecDepth 100000 in
set_option maxHeartbeats 2000000 in
theorem rRun_any (s : ByteArray) (hs : s.size ≤ 1000) (w : World) : Calls Tryz.prog 165 #[.string s, .int .i64 0] w (Ret (.int .i64 (runL s.data.toList)) w) := by
  have HL := Lib.hid (fun (x : Nat) (w : World) => rLetter_any x w)
  have HD := Lib.hid (fun (x : Nat) (w : World) => rDigit_any x w)
  go_enter Tryz.func165, Tryz.ntmps165
  go_wp2
  go_loopw [5] (fun i wr => ∃ k : Nat, k ≤ s.size ∧ i = .int .i64 k ∧ w = wr ∧ Hid (runL s.data.toList = k + runL (s.data.toList.drop k))) (fun i _ => s.size + 1 - (intOf i).toNat)
  case atStart => exact ⟨0, by omega, rfl, rfl, Lib.hid (by simp)⟩
  case round =>
    obtain ⟨k, hk, rfl, rfl, HK⟩ := hrel
    have hkw : IntKind.i64.wrap ((k : Int)) = (k : Int) := by rw [IntKind.wrap_i64]; omega
    by_cases hlt : k < s.size
    · have hlti : (k : Int) < (s.size : Int) := by omega
      have hdr := get_drop hlt
      obtain ⟨b, hb⟩ : ∃ b, b = s[k] := ⟨_, rfl⟩
      rw [← hb] at hdr
      have hbn : s[k].toNat = b.toNat := by rw [hb]
      obtain ⟨x, hx⟩ : ∃ x, x = b.toNat := ⟨_, rfl⟩
      rw [← hx] at hbn
      have HX := Lib.hid hx
      have HDR := Lib.hid hdr
      have hEW : wordB b = (letterI (x : Int) || digI (x : Int)) := by unfold wordB wordR; rw [hx]
      have HEW := Lib.hid hEW
      clear hdr hb hx hEW
      cases hdg : digI (x : Int)
      · cases hlt2 : letterI (x : Int)
        · have HF : Hid (runL s.data.toList = k) := Lib.hid (by
            rw [HK.out, HDR.out]
            unfold runL
            rw [if_neg (by rw [HEW.out, hdg, hlt2]; decide)]; rfl)
          go_wp2_with fail
          refine (HD.out _ _).mono ?_
          rintro e u ⟨rfl, rfl⟩
          rw [hdg]
          go_wp2_with fail
          refine (HL.out _ _).mono ?_
          rintro e u ⟨rfl, rfl⟩
          rw [hlt2]
          go_wp2
          go_ret
          exact ⟨by rw [HF.out]; rfl, rfl⟩
        · have HF : Hid (runL s.data.toList = (k + 1) + runL (s.data.toList.drop (k + 1))) := Lib.hid (by
            rw [HK.out, HDR.out]
            show k + (if wordB b = true then runL _ + 1 else 0) = _
            rw [if_pos (by rw [HEW.out, hdg, hlt2]; rfl)]; omega)
          go_wp2_with fail
          refine (HD.out _ _).mono ?_
          rintro e u ⟨rfl, rfl⟩
          rw [hdg]
          go_wp2_with fail
          refine (HL.out _ _).mono ?_
          rintro e u ⟨rfl, rfl⟩
          rw [hlt2]
          go_wp2
          go_roundw
          case rel => exact ⟨k + 1, by omega, by go_num, trivial, HF⟩
          case measure => simp [intOf]; omega
      · have HF : Hid (runL s.data.toList = (k + 1) + runL (s.data.toList.drop (k + 1))) := Lib.hid (by
          rw [HK.out, HDR.out]
          show k + (if wordB b = true then runL _ + 1 else 0) = _
          rw [if_pos (by rw [HEW.out, hdg, Bool.or_true])]; omega)
        go_wp2_with fail
        refine (HD.out _ _).mono ?_
        rintro e u ⟨rfl, rfl⟩
        rw [hdg]
        go_wp2
        go_roundw
        case rel => exact ⟨k + 1, by omega, by go_num, trivial, HF⟩
        case measure => simp [intOf]; omega
    · have hlti : ¬ (k : Int) < (s.size : Int) := by omega
      have HF : Hid (runL s.data.toList = k) := Lib.hid (by
        rw [HK.out, List.drop_eq_nil_of_le (by simp; omega)]; rfl)
      go_wp2
      go_ret
      exact ⟨by rw [HF.out]; rfl, rfl⟩
set_option maxRecDepth 100000 in
set_option maxHeartbeats 2000000 in
theorem rIsWord_any (s : ByteArray) (hs : s.size ≤ 1000) (w : World) : Calls Tryz.prog 143 #[.string s] w (Ret (.bool (isWordL s.data.toList)) w) := by
  have hlen : s.data.toList.length = s.size := by simp
  by_cases h0 : s.size < 1
  · have h0z : (s.size : Int) < 1 := by omega
    have HE : Hid (isWordL s.data.toList = false) := Lib.hid (by
      have : s.data.toList = [] := List.length_eq_zero_iff.1 (by omega)
      rw [this]; rfl)
    clear hs hlen h0
    go_enter Tryz.func143, Tryz.ntmps143
    go_wp2
    go_ret
    exact ret_bool HE.out.symm
  obtain ⟨b, t, hbt⟩ : ∃ b t, s.data.toList = b :: t := by
    cases h : s.data.toList with
    | nil => rw [h] at hlen; simp at hlen; omega
    | cons b t => exact ⟨b, t, rfl⟩
  by_cases h31 : 31 < s.size
  · have h31z : (31 : Int) < (s.size : Int) := by omega
    have h0z : ¬ (s.size : Int) < 1 := by omega
    have HE : Hid (isWordL s.data.toList = false) := Lib.hid (by
      rw [hbt] at hlen ⊢
      unfold isWordL
      simp only
      rw [decide_eq_false (by omega)]; rfl)
    clear hs hlen h0 h31 hbt
    go_enter Tryz.func143, Tryz.ntmps143
    go_wp2
    go_ret
    exact ret_bool HE.out.symm
  have h31z : ¬ (31 : Int) < (s.size : Int) := by omega
  have h0z : ¬ (s.size : Int) < 1 := by omega
  have h0s : 0 < s.size := by omega
  have hne2 : (0 : Int) < (s.size : Int) := by omega
  have hb0 : s[0] = b := by
    have := get_drop h0s
    rw [List.drop_zero, hbt] at this
    simp only [List.cons.injEq] at this
    exact this.1.symm
  have HR := Lib.hid (fun w => rRun_any s hs w)
  have hr : (runL s.data.toList = s.size) ↔ s.data.toList.all wordB = true := by rw [← hlen]; exact runL_all _
  have hE : isWordL s.data.toList = (letterI (b.toNat : Int) && s.data.toList.all wordB) := by
    rw [hbt] at hlen ⊢
    unfold isWordL
    simp only
    rw [decide_eq_true (by omega), Bool.true_and]
  obtain ⟨q, hq⟩ : ∃ q, q = runL s.data.toList := ⟨_, rfl⟩
  have hql : q ≤ s.size := by rw [hq, ← hlen]; exact runL_le _
  rw [← hq] at hr
  have HRQ : Hid (∀ w, Calls Tryz.prog 165 #[.string s, .int .i64 0] w (Ret (.int .i64 (q : Int)) w)) := Lib.hid (fun w => by rw [hq]; exact HR.out w)
  have HL := Lib.hid (fun (x : Nat) (w : World) => rLetter_any x w)
  obtain ⟨x, hx⟩ : ∃ x, x = b.toNat := ⟨_, rfl⟩
  have hB0 : s[0].toNat = x := by rw [hb0, hx]
  rw [← hx] at hE
  have HE := Lib.hid hE
  have HR2 := Lib.hid hr
  have hne : ¬ s.toList = [] := fun h => by
    have := congrArg List.length h
    rw [ByteArray.toList_eq, hlen] at this
    simp only [List.length_nil] at this; omega
  clear hE hr hq hx hb0 hbt hlen h31 h0
  cases hl : letterI (x : Int)
  · have HF : Hid (isWordL s.data.toList = false) := Lib.hid (by rw [HE.out, hl]; rfl)
    clear hs
    go_enter Tryz.func143, Tryz.ntmps143
    go_wp2_with fail
    refine (HL.out _ _).mono ?_
    rintro e u ⟨rfl, rfl⟩
    rw [hl]
    go_wp2
    go_ret
    exact ret_bool HF.out.symm
  · by_cases he : q = s.size
    · have HF : Hid (isWordL s.data.toList = true) := Lib.hid (by rw [HE.out, hl, HR2.out.1 he]; rfl)
      have t1 : ((q : Int) == (s.size : Int)) = true := by rw [he]; simp
      clear hs he hql
      go_enter Tryz.func143, Tryz.ntmps143
      go_wp2_with fail
      refine (HL.out _ _).mono ?_
      rintro e u ⟨rfl, rfl⟩
      rw [hl]
      go_wp2_with fail
      refine (HRQ.out _).mono ?_
      rintro e u ⟨rfl, rfl⟩
      go_wp2
      go_ret
      exact ret_bool (by rw [HF.out])
    · have HF : Hid (isWordL s.data.toList = false) := Lib.hid (by
        rw [HE.out, hl]
        cases ha : s.data.toList.all wordB
        · rfl
        · exact absurd (HR2.out.2 ha) he)
      have t1 : ((q : Int) == (s.size : Int)) = false := by simp; omega
      clear hs he hql
      go_enter Tryz.func143, Tryz.ntmps143
      go_wp2_with fail
      refine (HL.out _ _).mono ?_
      rintro e u ⟨rfl, rfl⟩
      rw [hl]
      go_wp2_with fail
      refine (HRQ.out _).mono ?_
      rintro e u ⟨rfl, rfl⟩
      go_wp2
      go_ret
      exact ret_bool (by rw [HF.out])
end Go.Proofs.YtmlofdolenmkoaaGreatDoor
