/- The reference's digit, Value, Text and Hex. -/
import Derived.Test.YtklebljckmkdlaaDoorN11
import Derived.Lib.RuneLoops
import Derived.Lib.Split
import Derived.Outline
namespace Go.Proofs.YtklebljckmkdlaaDoor
set_option linter.unusedVariables false
set_option linter.unusedSimpArgs false
open Go.RowKit

def rdig (b c : Nat) : Int := if digR c < b then (digR c : Int) else -1
theorem digR_le (c : Nat) : digR c ≤ 16 := by unfold digR; (repeat' split) <;> omega
set_option maxHeartbeats 1000000 in
theorem rdigit_any (b c : Nat) (w : World) (hc : c < 256) (hb : b = 10 ∨ b = 16) : Calls Tryd.prog 26 #[.int .u8 c, .int .i64 b] w (Ret (.int .i64 (rdig b c)) w) := by
  have cs : (48 ≤ c ∧ c ≤ 57) ∨ (57 < c ∧ 97 ≤ c ∧ c ≤ 102) ∨ (57 < c ∧ c < 97 ∧ 65 ≤ c ∧ c ≤ 70) ∨ c < 48 ∨ (57 < c ∧ c < 65) ∨ (70 < c ∧ c < 97) ∨ 102 < c := by omega
  rcases hb with rfl | rfl <;> rcases cs with ⟨h1, h2⟩ | ⟨h1, h2, h3⟩ | ⟨h1, h2, h3, h4⟩ | h1 | ⟨h1, h2⟩ | ⟨h1, h2⟩ | h1
  all_goals
    have H : Hid (∀ x : Int, x = (if 48 ≤ c ∧ c ≤ 57 then (c : Int) - 48 else if 97 ≤ c ∧ c ≤ 102 then (if (10 : Nat) < 11 then (c : Int) - 97 + 10 else 0) else if 65 ≤ c ∧ c ≤ 70 then (c : Int) - 65 + 10 else -1) → True) := Lib.hid fun _ _ => trivial
    have HR : Hid (rdig 10 c = (if 48 ≤ c ∧ c ≤ 57 then (c : Int) - 48 else -1)) := Lib.hid (by unfold rdig digR; (repeat' split) <;> omega)
    have HR6 : Hid (rdig 16 c = (if 48 ≤ c ∧ c ≤ 57 then (c : Int) - 48 else if 97 ≤ c ∧ c ≤ 102 then (c : Int) - 97 + 10 else if 65 ≤ c ∧ c ≤ 70 then (c : Int) - 65 + 10 else -1)) := Lib.hid (by unfold rdig digR; (repeat' split) <;> omega)
    clear H
    go_enter Tryd.func26, Tryd.ntmps26
    go_wp2
    go_ret
    refine ret_int ?_
    first
    | (rw [HR.out]; (repeat' split) <;> first | rfl | omega)
    | (rw [HR6.out]; (repeat' split) <;> first | rfl | omega)
def RRel (b : Nat) (D : ByteArray) (o : Option Nat) (x i : Value) : Prop :=
  ∃ pos n : Nat, pos ≤ D.size ∧ i = .int .i64 pos ∧ x = .int .u64 n ∧ n < 18446744073709551616 ∧ vf b (D.data.toList.drop pos) n = o
def valO (o : Option Nat) : Int × Int := match o with | some v => ((v : Int), 0) | none => (0, 4)
theorem rdig_ok {b c : Nat} (h : digR c < b) : rdig b c = (digR c : Int) := if_pos h
theorem rdig_bad {b c : Nat} (h : ¬ digR c < b) : rdig b c = -1 := if_neg h

set_option maxRecDepth 100000 in
set_option maxHeartbeats 4000000 in
theorem rval16 (s D : ByteArray) (w : World) (h2 : 2 ≤ s.size) (hmax : s.size ≤ 2000000) (q1 : (((s[0]'(by omega)).toNat : Int) == 48) = true) (q2 : (((s[1]'(by omega)).toNat : Int) == 120) = true) (hD : s.extract 2 s.size = D) (hDs : s.size - 2 = D.size) (hsz : D.size ≤ 2000000) :
    Calls Tryd.prog 9 #[.string s] w (Ret (two .u64 .i64 (valD 16 D.data.toList)) w) := by
  have HLen := Lib.hid (bytes_len D)
  have HDg : Hid (∀ (c : Nat) w, c < 256 → Calls Tryd.prog 26 #[.int .u8 c, .int .i64 16] w (Ret (.int .i64 (rdig 16 c)) w)) := Lib.hid fun c w hc => rdigit_any 16 c w hc (by decide)
  by_cases he : D.data.toList = []
  · have HV := Lib.hid (valD_bad (b := 16) (.inl he))
    have hs0 : D.size = 0 := by rw [← bytes_len, he]; rfl
    have q0 : ((D.size : Int) == 0) = true := by rw [beq_iff_eq]; omega
    clear he
    go_enter Tryd.func9, Tryd.ntmps9
    go_wp2
    go_ret2
    exact ret_two HV.out
  have hs0 : 0 < D.size := by rw [← bytes_len]; exact List.length_pos_iff.2 he
  have q0 : ((D.size : Int) == 0) = false := by rw [beq_eq_false_iff_ne]; omega
  by_cases hok : okL 16 D.data.toList = true
  · have HOK := Lib.hid hok
    have HG : Hid (¬ (D.data.toList = [] ∨ okL 16 D.data.toList = false)) := Lib.hid (by rw [hok]; simp [he])
    clear he hok
    obtain ⟨o, ho⟩ : ∃ o, vf 16 D.data.toList 0 = o := ⟨_, rfl⟩
    have HV : Hid (valD 16 D.data.toList = valO o) := Lib.hid (by cases o with | none => exact valD_none HG.out ho | some x => exact valD_some HG.out ho)
    have HO := Lib.hid ho
    clear ho
    go_enter Tryd.func9, Tryd.ntmps9
    go_wp2
    go_loop [5] (fun i => ∃ k : Nat, k ≤ D.size ∧ i = .int .i64 k) (fun i => D.size - (intOf i).toNat)
    case atStart => exact ⟨0, by omega, rfl⟩
    case round =>
      obtain ⟨k, hk, rfl⟩ := hrel
      by_cases hlt : k < D.size
      · have hdb : digR (D[k]'hlt).toNat < 16 := okL_drop HOK.out k (by rw [HLen.out]; exact hlt)
        have hcl := (D[k]'hlt).toNat_lt
        have HD1 : Hid (∀ w, Calls Tryd.prog 26 #[.int .u8 (D[k]'hlt).toNat, .int .i64 16] w (Ret (.int .i64 (digR (D[k]'hlt).toNat : Nat)) w)) := Lib.hid fun w => by have := HDg.out _ w hcl; rwa [rdig_ok hdb] at this
        go_wp2_with (first | (go_at_call 26; ((with_reducible refine (HD1.out _).mono ?_); rintro e w' ⟨rfl, rfl⟩)))
        go_round
        case rel => exact ⟨k + 1, by omega, by go_num⟩
        case measure => simp [intOf]; omega
      · go_wp2
        go_loop [6, 7, 8] (fun x i _ => RRel 16 D o x i) (fun _ i _ => D.size - (intOf i).toNat)
        case atStart => exact ⟨0, 0, by omega, rfl, rfl, by omega, HO.out⟩
        case round =>
          obtain ⟨pos, n, hp, rfl, rfl, hn, hvf⟩ := hrel
          have HF := Lib.hid hvf
          clear hvf
          by_cases hlt : pos < D.size
          · have hdb : digR (D[pos]'hlt).toNat < 16 := okL_drop HOK.out pos (by rw [HLen.out]; exact hlt)
            have hcl := (D[pos]'hlt).toNat_lt
            have HD1 : Hid (∀ w, Calls Tryd.prog 26 #[.int .u8 (D[pos]'hlt).toNat, .int .i64 16] w (Ret (.int .i64 (digR (D[pos]'hlt).toNat : Nat)) w)) := Lib.hid fun w => by have := HDg.out _ w hcl; rwa [rdig_ok hdb] at this
            have HS := Lib.hid (bytes_drop D pos hlt)
            by_cases hst : n * 16 + digR (D[pos]'hlt).toNat < 18446744073709551616
            · have HF2 : Hid (vf 16 (D.data.toList.drop (pos + 1)) (n * 16 + digR (D[pos]'hlt).toNat) = o) := Lib.hid (by have h2 := HF.out; rw [HS.out] at h2; exact (vf_step (c := D[pos]'hlt) hst).symm.trans h2)
              generalize digR (D[pos]'hlt).toNat = d at *
              obtain ⟨q, hq⟩ : ∃ q : Nat, (18446744073709551615 - (d : Int)) / 16 = (q : Int) := ⟨(18446744073709551615 - d) / 16, by omega⟩
              have hle : n ≤ q := by omega
              obtain ⟨p, hp1, hpe⟩ : ∃ p : Nat, IntKind.u64.wrap (16 * (n : Int)) = (p : Int) ∧ p = n * 16 := ⟨n * 16, by rw [IntKind.wrap_u64]; omega, rfl⟩
              obtain ⟨m, hm, hme, hml⟩ : ∃ m : Nat, IntKind.u64.wrap ((p : Int) + (d : Int)) = (m : Int) ∧ m = n * 16 + d ∧ m < 18446744073709551616 := ⟨n * 16 + d, by rw [IntKind.wrap_u64]; omega, rfl, hst⟩
              rw [← hme] at HF2
              clear hst hpe hme
              go_wp2_with (first | (go_at_call 26; ((with_reducible refine (HD1.out _).mono ?_); rintro e w' ⟨rfl, rfl⟩)))
              go_round
              case rel => exact ⟨pos + 1, m, by omega, by go_num, rfl, hml, HF2.out⟩
              case measure => simp [intOf]; omega
            · have HN : Hid (o = none) := Lib.hid (by
                have h2 := HF.out
                rw [HS.out] at h2
                exact h2.symm.trans (vf_stop (b := 16) (v := n) (c := D[pos]'hlt) (r := D.data.toList.drop (pos + 1)) hst))
              generalize digR (D[pos]'hlt).toNat = d at *
              obtain ⟨q, hq⟩ : ∃ q : Nat, (18446744073709551615 - (d : Int)) / 16 = (q : Int) := ⟨(18446744073709551615 - d) / 16, by omega⟩
              have hgt : q < n := by omega
              clear hst
              go_wp2_with (first | (go_at_call 26; ((with_reducible refine (HD1.out _).mono ?_); rintro e w' ⟨rfl, rfl⟩)))
              go_ret2
              exact ret_two (by rw [HV.out, HN.out]; rfl)
          · have HE : Hid (o = some n) := Lib.hid (by
              have h2 := HF.out
              rw [List.drop_eq_nil_of_le (by rw [HLen.out]; omega)] at h2
              exact h2.symm)
            go_wp2
            go_ret2
            exact ret_two (by rw [HV.out, HE.out]; rfl)
  · have hbad : okL 16 D.data.toList = false := by simpa using hok
    have HV := Lib.hid (valD_bad (.inr hbad))
    have H0 := Lib.hid hbad
    clear he hok hbad
    go_enter Tryd.func9, Tryd.ntmps9
    go_wp2
    go_loop [5] (fun i => ∃ k : Nat, k ≤ D.size ∧ i = .int .i64 k ∧ okL 16 (D.data.toList.drop k) = false) (fun i => D.size - (intOf i).toNat)
    case atStart => exact ⟨0, by omega, rfl, H0.out⟩
    case round =>
      obtain ⟨k, hk, rfl, hf⟩ := hrel
      have HF := Lib.hid hf
      clear hf
      by_cases hlt : k < D.size
      · have hcl := (D[k]'hlt).toNat_lt
        have HS := Lib.hid (bytes_drop D k hlt)
        by_cases hdb : digR (D[k]'hlt).toNat < 16
        · have HD1 : Hid (∀ w, Calls Tryd.prog 26 #[.int .u8 (D[k]'hlt).toNat, .int .i64 16] w (Ret (.int .i64 (digR (D[k]'hlt).toNat : Nat)) w)) := Lib.hid fun w => by have := HDg.out _ w hcl; rwa [rdig_ok hdb] at this
          have HN : Hid (okL 16 (D.data.toList.drop (k + 1)) = false) := Lib.hid (by
            have := HF.out
            rwa [HS.out, okL_cons, decide_eq_true (show digB (D[k]'hlt) < 16 from hdb), Bool.true_and] at this)
          go_wp2_with (first | (go_at_call 26; ((with_reducible refine (HD1.out _).mono ?_); rintro e w' ⟨rfl, rfl⟩)))
          go_round
          case rel => exact ⟨k + 1, by omega, by go_num, HN.out⟩
          case measure => simp [intOf]; omega
        · have HD1 : Hid (∀ w, Calls Tryd.prog 26 #[.int .u8 (D[k]'hlt).toNat, .int .i64 16] w (Ret (.int .i64 (-1)) w)) := Lib.hid fun w => by have := HDg.out _ w hcl; rwa [rdig_bad hdb] at this
          go_wp2_with (first | (go_at_call 26; ((with_reducible refine (HD1.out _).mono ?_); rintro e w' ⟨rfl, rfl⟩)))
          go_ret2
          exact ret_two HV.out
      · exfalso
        have := HF.out
        rw [List.drop_eq_nil_of_le (by rw [HLen.out]; omega)] at this
        cases this

/-- There is no 0x ahead. -/
def NoPre (D : ByteArray) : Prop := D.size < 2 ∨ (∃ h : 2 ≤ D.size, (((D[0]'(by omega)).toNat : Int) == 48) = false) ∨ ∃ h : 2 ≤ D.size, (((D[0]'(by omega)).toNat : Int) == 48) = true ∧ (((D[1]'(by omega)).toNat : Int) == 120) = false

set_option maxRecDepth 100000 in
set_option maxHeartbeats 4000000 in
theorem rval10_0 (D : ByteArray) (w : World) (hmax : D.size ≤ 2000000) (hn : D.size < 2) :
    Calls Tryd.prog 9 #[.string D] w (Ret (two .u64 .i64 (valD 10 D.data.toList)) w) := by
  have HLen := Lib.hid (bytes_len D)
  have HDg : Hid (∀ (c : Nat) w, c < 256 → Calls Tryd.prog 26 #[.int .u8 c, .int .i64 10] w (Ret (.int .i64 (rdig 10 c)) w)) := Lib.hid fun c w hc => rdigit_any 10 c w hc (by decide)
  by_cases he : D.data.toList = []
  · have HV := Lib.hid (valD_bad (b := 10) (.inl he))
    have hs0 : D.size = 0 := by rw [← bytes_len, he]; rfl
    have q0 : ((D.size : Int) == 0) = true := by rw [beq_iff_eq]; omega
    clear he
    go_enter Tryd.func9, Tryd.ntmps9
    go_wp2
    go_ret2
    exact ret_two HV.out
  have hs0 : 0 < D.size := by rw [← bytes_len]; exact List.length_pos_iff.2 he
  have q0 : ((D.size : Int) == 0) = false := by rw [beq_eq_false_iff_ne]; omega
  by_cases hok : okL 10 D.data.toList = true
  · have HOK := Lib.hid hok
    have HG : Hid (¬ (D.data.toList = [] ∨ okL 10 D.data.toList = false)) := Lib.hid (by rw [hok]; simp [he])
    clear he hok
    obtain ⟨o, ho⟩ : ∃ o, vf 10 D.data.toList 0 = o := ⟨_, rfl⟩
    have HV : Hid (valD 10 D.data.toList = valO o) := Lib.hid (by cases o with | none => exact valD_none HG.out ho | some x => exact valD_some HG.out ho)
    have HO := Lib.hid ho
    clear ho
    go_enter Tryd.func9, Tryd.ntmps9
    go_wp2
    go_loop [5] (fun i => ∃ k : Nat, k ≤ D.size ∧ i = .int .i64 k) (fun i => D.size - (intOf i).toNat)
    case atStart => exact ⟨0, by omega, rfl⟩
    case round =>
      obtain ⟨k, hk, rfl⟩ := hrel
      by_cases hlt : k < D.size
      · have hdb : digR (D[k]'hlt).toNat < 10 := okL_drop HOK.out k (by rw [HLen.out]; exact hlt)
        have hcl := (D[k]'hlt).toNat_lt
        have HD1 : Hid (∀ w, Calls Tryd.prog 26 #[.int .u8 (D[k]'hlt).toNat, .int .i64 10] w (Ret (.int .i64 (digR (D[k]'hlt).toNat : Nat)) w)) := Lib.hid fun w => by have := HDg.out _ w hcl; rwa [rdig_ok hdb] at this
        go_wp2_with (first | (go_at_call 26; ((with_reducible refine (HD1.out _).mono ?_); rintro e w' ⟨rfl, rfl⟩)))
        go_round
        case rel => exact ⟨k + 1, by omega, by go_num⟩
        case measure => simp [intOf]; omega
      · go_wp2
        go_loop [6, 7, 8] (fun x i _ => RRel 10 D o x i) (fun _ i _ => D.size - (intOf i).toNat)
        case atStart => exact ⟨0, 0, by omega, rfl, rfl, by omega, HO.out⟩
        case round =>
          obtain ⟨pos, n, hp, rfl, rfl, hn, hvf⟩ := hrel
          have HF := Lib.hid hvf
          clear hvf
          by_cases hlt : pos < D.size
          · have hdb : digR (D[pos]'hlt).toNat < 10 := okL_drop HOK.out pos (by rw [HLen.out]; exact hlt)
            have hcl := (D[pos]'hlt).toNat_lt
            have HD1 : Hid (∀ w, Calls Tryd.prog 26 #[.int .u8 (D[pos]'hlt).toNat, .int .i64 10] w (Ret (.int .i64 (digR (D[pos]'hlt).toNat : Nat)) w)) := Lib.hid fun w => by have := HDg.out _ w hcl; rwa [rdig_ok hdb] at this
            have HS := Lib.hid (bytes_drop D pos hlt)
            by_cases hst : n * 10 + digR (D[pos]'hlt).toNat < 18446744073709551616
            · have HF2 : Hid (vf 10 (D.data.toList.drop (pos + 1)) (n * 10 + digR (D[pos]'hlt).toNat) = o) := Lib.hid (by have h2 := HF.out; rw [HS.out] at h2; exact (vf_step (c := D[pos]'hlt) hst).symm.trans h2)
              generalize digR (D[pos]'hlt).toNat = d at *
              obtain ⟨q, hq⟩ : ∃ q : Nat, (18446744073709551615 - (d : Int)) / 10 = (q : Int) := ⟨(18446744073709551615 - d) / 10, by omega⟩
              have hle : n ≤ q := by omega
              obtain ⟨p, hp1, hpe⟩ : ∃ p : Nat, IntKind.u64.wrap (10 * (n : Int)) = (p : Int) ∧ p = n * 10 := ⟨n * 10, by rw [IntKind.wrap_u64]; omega, rfl⟩
              obtain ⟨m, hm, hme, hml⟩ : ∃ m : Nat, IntKind.u64.wrap ((p : Int) + (d : Int)) = (m : Int) ∧ m = n * 10 + d ∧ m < 18446744073709551616 := ⟨n * 10 + d, by rw [IntKind.wrap_u64]; omega, rfl, hst⟩
              rw [← hme] at HF2
              clear hst hpe hme
              go_wp2_with (first | (go_at_call 26; ((with_reducible refine (HD1.out _).mono ?_); rintro e w' ⟨rfl, rfl⟩)))
              go_round
              case rel => exact ⟨pos + 1, m, by omega, by go_num, rfl, hml, HF2.out⟩
              case measure => simp [intOf]; omega
            · have HN : Hid (o = none) := Lib.hid (by
                have h2 := HF.out
                rw [HS.out] at h2
                exact h2.symm.trans (vf_stop (b := 10) (v := n) (c := D[pos]'hlt) (r := D.data.toList.drop (pos + 1)) hst))
              generalize digR (D[pos]'hlt).toNat = d at *
              obtain ⟨q, hq⟩ : ∃ q : Nat, (18446744073709551615 - (d : Int)) / 10 = (q : Int) := ⟨(18446744073709551615 - d) / 10, by omega⟩
              have hgt : q < n := by omega
              clear hst
              go_wp2_with (first | (go_at_call 26; ((with_reducible refine (HD1.out _).mono ?_); rintro e w' ⟨rfl, rfl⟩)))
              go_ret2
              exact ret_two (by rw [HV.out, HN.out]; rfl)
          · have HE : Hid (o = some n) := Lib.hid (by
              have h2 := HF.out
              rw [List.drop_eq_nil_of_le (by rw [HLen.out]; omega)] at h2
              exact h2.symm)
            go_wp2
            go_ret2
            exact ret_two (by rw [HV.out, HE.out]; rfl)
  · have hbad : okL 10 D.data.toList = false := by simpa using hok
    have HV := Lib.hid (valD_bad (.inr hbad))
    have H0 := Lib.hid hbad
    clear he hok hbad
    go_enter Tryd.func9, Tryd.ntmps9
    go_wp2
    go_loop [5] (fun i => ∃ k : Nat, k ≤ D.size ∧ i = .int .i64 k ∧ okL 10 (D.data.toList.drop k) = false) (fun i => D.size - (intOf i).toNat)
    case atStart => exact ⟨0, by omega, rfl, H0.out⟩
    case round =>
      obtain ⟨k, hk, rfl, hf⟩ := hrel
      have HF := Lib.hid hf
      clear hf
      by_cases hlt : k < D.size
      · have hcl := (D[k]'hlt).toNat_lt
        have HS := Lib.hid (bytes_drop D k hlt)
        by_cases hdb : digR (D[k]'hlt).toNat < 10
        · have HD1 : Hid (∀ w, Calls Tryd.prog 26 #[.int .u8 (D[k]'hlt).toNat, .int .i64 10] w (Ret (.int .i64 (digR (D[k]'hlt).toNat : Nat)) w)) := Lib.hid fun w => by have := HDg.out _ w hcl; rwa [rdig_ok hdb] at this
          have HN : Hid (okL 10 (D.data.toList.drop (k + 1)) = false) := Lib.hid (by
            have := HF.out
            rwa [HS.out, okL_cons, decide_eq_true (show digB (D[k]'hlt) < 10 from hdb), Bool.true_and] at this)
          go_wp2_with (first | (go_at_call 26; ((with_reducible refine (HD1.out _).mono ?_); rintro e w' ⟨rfl, rfl⟩)))
          go_round
          case rel => exact ⟨k + 1, by omega, by go_num, HN.out⟩
          case measure => simp [intOf]; omega
        · have HD1 : Hid (∀ w, Calls Tryd.prog 26 #[.int .u8 (D[k]'hlt).toNat, .int .i64 10] w (Ret (.int .i64 (-1)) w)) := Lib.hid fun w => by have := HDg.out _ w hcl; rwa [rdig_bad hdb] at this
          go_wp2_with (first | (go_at_call 26; ((with_reducible refine (HD1.out _).mono ?_); rintro e w' ⟨rfl, rfl⟩)))
          go_ret2
          exact ret_two HV.out
      · exfalso
        have := HF.out
        rw [List.drop_eq_nil_of_le (by rw [HLen.out]; omega)] at this
        cases this

set_option maxRecDepth 100000 in
set_option maxHeartbeats 4000000 in
theorem rval10_1 (D : ByteArray) (w : World) (hmax : D.size ≤ 2000000) (h2 : 2 ≤ D.size) (q1 : (((D[0]'(by omega)).toNat : Int) == 48) = false) :
    Calls Tryd.prog 9 #[.string D] w (Ret (two .u64 .i64 (valD 10 D.data.toList)) w) := by
  have HLen := Lib.hid (bytes_len D)
  have HDg : Hid (∀ (c : Nat) w, c < 256 → Calls Tryd.prog 26 #[.int .u8 c, .int .i64 10] w (Ret (.int .i64 (rdig 10 c)) w)) := Lib.hid fun c w hc => rdigit_any 10 c w hc (by decide)
  by_cases he : D.data.toList = []
  · have HV := Lib.hid (valD_bad (b := 10) (.inl he))
    have hs0 : D.size = 0 := by rw [← bytes_len, he]; rfl
    have q0 : ((D.size : Int) == 0) = true := by rw [beq_iff_eq]; omega
    clear he
    go_enter Tryd.func9, Tryd.ntmps9
    go_wp2
    go_ret2
    exact ret_two HV.out
  have hs0 : 0 < D.size := by rw [← bytes_len]; exact List.length_pos_iff.2 he
  have q0 : ((D.size : Int) == 0) = false := by rw [beq_eq_false_iff_ne]; omega
  by_cases hok : okL 10 D.data.toList = true
  · have HOK := Lib.hid hok
    have HG : Hid (¬ (D.data.toList = [] ∨ okL 10 D.data.toList = false)) := Lib.hid (by rw [hok]; simp [he])
    clear he hok
    obtain ⟨o, ho⟩ : ∃ o, vf 10 D.data.toList 0 = o := ⟨_, rfl⟩
    have HV : Hid (valD 10 D.data.toList = valO o) := Lib.hid (by cases o with | none => exact valD_none HG.out ho | some x => exact valD_some HG.out ho)
    have HO := Lib.hid ho
    clear ho
    go_enter Tryd.func9, Tryd.ntmps9
    go_wp2
    go_loop [5] (fun i => ∃ k : Nat, k ≤ D.size ∧ i = .int .i64 k) (fun i => D.size - (intOf i).toNat)
    case atStart => exact ⟨0, by omega, rfl⟩
    case round =>
      obtain ⟨k, hk, rfl⟩ := hrel
      by_cases hlt : k < D.size
      · have hdb : digR (D[k]'hlt).toNat < 10 := okL_drop HOK.out k (by rw [HLen.out]; exact hlt)
        have hcl := (D[k]'hlt).toNat_lt
        have HD1 : Hid (∀ w, Calls Tryd.prog 26 #[.int .u8 (D[k]'hlt).toNat, .int .i64 10] w (Ret (.int .i64 (digR (D[k]'hlt).toNat : Nat)) w)) := Lib.hid fun w => by have := HDg.out _ w hcl; rwa [rdig_ok hdb] at this
        go_wp2_with (first | (go_at_call 26; ((with_reducible refine (HD1.out _).mono ?_); rintro e w' ⟨rfl, rfl⟩)))
        go_round
        case rel => exact ⟨k + 1, by omega, by go_num⟩
        case measure => simp [intOf]; omega
      · go_wp2
        go_loop [6, 7, 8] (fun x i _ => RRel 10 D o x i) (fun _ i _ => D.size - (intOf i).toNat)
        case atStart => exact ⟨0, 0, by omega, rfl, rfl, by omega, HO.out⟩
        case round =>
          obtain ⟨pos, n, hp, rfl, rfl, hn, hvf⟩ := hrel
          have HF := Lib.hid hvf
          clear hvf
          by_cases hlt : pos < D.size
          · have hdb : digR (D[pos]'hlt).toNat < 10 := okL_drop HOK.out pos (by rw [HLen.out]; exact hlt)
            have hcl := (D[pos]'hlt).toNat_lt
            have HD1 : Hid (∀ w, Calls Tryd.prog 26 #[.int .u8 (D[pos]'hlt).toNat, .int .i64 10] w (Ret (.int .i64 (digR (D[pos]'hlt).toNat : Nat)) w)) := Lib.hid fun w => by have := HDg.out _ w hcl; rwa [rdig_ok hdb] at this
            have HS := Lib.hid (bytes_drop D pos hlt)
            by_cases hst : n * 10 + digR (D[pos]'hlt).toNat < 18446744073709551616
            · have HF2 : Hid (vf 10 (D.data.toList.drop (pos + 1)) (n * 10 + digR (D[pos]'hlt).toNat) = o) := Lib.hid (by have h2 := HF.out; rw [HS.out] at h2; exact (vf_step (c := D[pos]'hlt) hst).symm.trans h2)
              generalize digR (D[pos]'hlt).toNat = d at *
              obtain ⟨q, hq⟩ : ∃ q : Nat, (18446744073709551615 - (d : Int)) / 10 = (q : Int) := ⟨(18446744073709551615 - d) / 10, by omega⟩
              have hle : n ≤ q := by omega
              obtain ⟨p, hp1, hpe⟩ : ∃ p : Nat, IntKind.u64.wrap (10 * (n : Int)) = (p : Int) ∧ p = n * 10 := ⟨n * 10, by rw [IntKind.wrap_u64]; omega, rfl⟩
              obtain ⟨m, hm, hme, hml⟩ : ∃ m : Nat, IntKind.u64.wrap ((p : Int) + (d : Int)) = (m : Int) ∧ m = n * 10 + d ∧ m < 18446744073709551616 := ⟨n * 10 + d, by rw [IntKind.wrap_u64]; omega, rfl, hst⟩
              rw [← hme] at HF2
              clear hst hpe hme
              go_wp2_with (first | (go_at_call 26; ((with_reducible refine (HD1.out _).mono ?_); rintro e w' ⟨rfl, rfl⟩)))
              go_round
              case rel => exact ⟨pos + 1, m, by omega, by go_num, rfl, hml, HF2.out⟩
              case measure => simp [intOf]; omega
            · have HN : Hid (o = none) := Lib.hid (by
                have h2 := HF.out
                rw [HS.out] at h2
                exact h2.symm.trans (vf_stop (b := 10) (v := n) (c := D[pos]'hlt) (r := D.data.toList.drop (pos + 1)) hst))
              generalize digR (D[pos]'hlt).toNat = d at *
              obtain ⟨q, hq⟩ : ∃ q : Nat, (18446744073709551615 - (d : Int)) / 10 = (q : Int) := ⟨(18446744073709551615 - d) / 10, by omega⟩
              have hgt : q < n := by omega
              clear hst
              go_wp2_with (first | (go_at_call 26; ((with_reducible refine (HD1.out _).mono ?_); rintro e w' ⟨rfl, rfl⟩)))
              go_ret2
              exact ret_two (by rw [HV.out, HN.out]; rfl)
          · have HE : Hid (o = some n) := Lib.hid (by
              have h2 := HF.out
              rw [List.drop_eq_nil_of_le (by rw [HLen.out]; omega)] at h2
              exact h2.symm)
            go_wp2
            go_ret2
            exact ret_two (by rw [HV.out, HE.out]; rfl)
  · have hbad : okL 10 D.data.toList = false := by simpa using hok
    have HV := Lib.hid (valD_bad (.inr hbad))
    have H0 := Lib.hid hbad
    clear he hok hbad
    go_enter Tryd.func9, Tryd.ntmps9
    go_wp2
    go_loop [5] (fun i => ∃ k : Nat, k ≤ D.size ∧ i = .int .i64 k ∧ okL 10 (D.data.toList.drop k) = false) (fun i => D.size - (intOf i).toNat)
    case atStart => exact ⟨0, by omega, rfl, H0.out⟩
    case round =>
      obtain ⟨k, hk, rfl, hf⟩ := hrel
      have HF := Lib.hid hf
      clear hf
      by_cases hlt : k < D.size
      · have hcl := (D[k]'hlt).toNat_lt
        have HS := Lib.hid (bytes_drop D k hlt)
        by_cases hdb : digR (D[k]'hlt).toNat < 10
        · have HD1 : Hid (∀ w, Calls Tryd.prog 26 #[.int .u8 (D[k]'hlt).toNat, .int .i64 10] w (Ret (.int .i64 (digR (D[k]'hlt).toNat : Nat)) w)) := Lib.hid fun w => by have := HDg.out _ w hcl; rwa [rdig_ok hdb] at this
          have HN : Hid (okL 10 (D.data.toList.drop (k + 1)) = false) := Lib.hid (by
            have := HF.out
            rwa [HS.out, okL_cons, decide_eq_true (show digB (D[k]'hlt) < 10 from hdb), Bool.true_and] at this)
          go_wp2_with (first | (go_at_call 26; ((with_reducible refine (HD1.out _).mono ?_); rintro e w' ⟨rfl, rfl⟩)))
          go_round
          case rel => exact ⟨k + 1, by omega, by go_num, HN.out⟩
          case measure => simp [intOf]; omega
        · have HD1 : Hid (∀ w, Calls Tryd.prog 26 #[.int .u8 (D[k]'hlt).toNat, .int .i64 10] w (Ret (.int .i64 (-1)) w)) := Lib.hid fun w => by have := HDg.out _ w hcl; rwa [rdig_bad hdb] at this
          go_wp2_with (first | (go_at_call 26; ((with_reducible refine (HD1.out _).mono ?_); rintro e w' ⟨rfl, rfl⟩)))
          go_ret2
          exact ret_two HV.out
      · exfalso
        have := HF.out
        rw [List.drop_eq_nil_of_le (by rw [HLen.out]; omega)] at this
        cases this

set_option maxRecDepth 100000 in
set_option maxHeartbeats 4000000 in
theorem rval10_2 (D : ByteArray) (w : World) (hmax : D.size ≤ 2000000) (h2 : 2 ≤ D.size) (q1 : (((D[0]'(by omega)).toNat : Int) == 48) = true) (q2 : (((D[1]'(by omega)).toNat : Int) == 120) = false) :
    Calls Tryd.prog 9 #[.string D] w (Ret (two .u64 .i64 (valD 10 D.data.toList)) w) := by
  have HLen := Lib.hid (bytes_len D)
  have HDg : Hid (∀ (c : Nat) w, c < 256 → Calls Tryd.prog 26 #[.int .u8 c, .int .i64 10] w (Ret (.int .i64 (rdig 10 c)) w)) := Lib.hid fun c w hc => rdigit_any 10 c w hc (by decide)
  by_cases he : D.data.toList = []
  · have HV := Lib.hid (valD_bad (b := 10) (.inl he))
    have hs0 : D.size = 0 := by rw [← bytes_len, he]; rfl
    have q0 : ((D.size : Int) == 0) = true := by rw [beq_iff_eq]; omega
    clear he
    go_enter Tryd.func9, Tryd.ntmps9
    go_wp2
    go_ret2
    exact ret_two HV.out
  have hs0 : 0 < D.size := by rw [← bytes_len]; exact List.length_pos_iff.2 he
  have q0 : ((D.size : Int) == 0) = false := by rw [beq_eq_false_iff_ne]; omega
  by_cases hok : okL 10 D.data.toList = true
  · have HOK := Lib.hid hok
    have HG : Hid (¬ (D.data.toList = [] ∨ okL 10 D.data.toList = false)) := Lib.hid (by rw [hok]; simp [he])
    clear he hok
    obtain ⟨o, ho⟩ : ∃ o, vf 10 D.data.toList 0 = o := ⟨_, rfl⟩
    have HV : Hid (valD 10 D.data.toList = valO o) := Lib.hid (by cases o with | none => exact valD_none HG.out ho | some x => exact valD_some HG.out ho)
    have HO := Lib.hid ho
    clear ho
    go_enter Tryd.func9, Tryd.ntmps9
    go_wp2
    go_loop [5] (fun i => ∃ k : Nat, k ≤ D.size ∧ i = .int .i64 k) (fun i => D.size - (intOf i).toNat)
    case atStart => exact ⟨0, by omega, rfl⟩
    case round =>
      obtain ⟨k, hk, rfl⟩ := hrel
      by_cases hlt : k < D.size
      · have hdb : digR (D[k]'hlt).toNat < 10 := okL_drop HOK.out k (by rw [HLen.out]; exact hlt)
        have hcl := (D[k]'hlt).toNat_lt
        have HD1 : Hid (∀ w, Calls Tryd.prog 26 #[.int .u8 (D[k]'hlt).toNat, .int .i64 10] w (Ret (.int .i64 (digR (D[k]'hlt).toNat : Nat)) w)) := Lib.hid fun w => by have := HDg.out _ w hcl; rwa [rdig_ok hdb] at this
        go_wp2_with (first | (go_at_call 26; ((with_reducible refine (HD1.out _).mono ?_); rintro e w' ⟨rfl, rfl⟩)))
        go_round
        case rel => exact ⟨k + 1, by omega, by go_num⟩
        case measure => simp [intOf]; omega
      · go_wp2
        go_loop [6, 7, 8] (fun x i _ => RRel 10 D o x i) (fun _ i _ => D.size - (intOf i).toNat)
        case atStart => exact ⟨0, 0, by omega, rfl, rfl, by omega, HO.out⟩
        case round =>
          obtain ⟨pos, n, hp, rfl, rfl, hn, hvf⟩ := hrel
          have HF := Lib.hid hvf
          clear hvf
          by_cases hlt : pos < D.size
          · have hdb : digR (D[pos]'hlt).toNat < 10 := okL_drop HOK.out pos (by rw [HLen.out]; exact hlt)
            have hcl := (D[pos]'hlt).toNat_lt
            have HD1 : Hid (∀ w, Calls Tryd.prog 26 #[.int .u8 (D[pos]'hlt).toNat, .int .i64 10] w (Ret (.int .i64 (digR (D[pos]'hlt).toNat : Nat)) w)) := Lib.hid fun w => by have := HDg.out _ w hcl; rwa [rdig_ok hdb] at this
            have HS := Lib.hid (bytes_drop D pos hlt)
            by_cases hst : n * 10 + digR (D[pos]'hlt).toNat < 18446744073709551616
            · have HF2 : Hid (vf 10 (D.data.toList.drop (pos + 1)) (n * 10 + digR (D[pos]'hlt).toNat) = o) := Lib.hid (by have h2 := HF.out; rw [HS.out] at h2; exact (vf_step (c := D[pos]'hlt) hst).symm.trans h2)
              generalize digR (D[pos]'hlt).toNat = d at *
              obtain ⟨q, hq⟩ : ∃ q : Nat, (18446744073709551615 - (d : Int)) / 10 = (q : Int) := ⟨(18446744073709551615 - d) / 10, by omega⟩
              have hle : n ≤ q := by omega
              obtain ⟨p, hp1, hpe⟩ : ∃ p : Nat, IntKind.u64.wrap (10 * (n : Int)) = (p : Int) ∧ p = n * 10 := ⟨n * 10, by rw [IntKind.wrap_u64]; omega, rfl⟩
              obtain ⟨m, hm, hme, hml⟩ : ∃ m : Nat, IntKind.u64.wrap ((p : Int) + (d : Int)) = (m : Int) ∧ m = n * 10 + d ∧ m < 18446744073709551616 := ⟨n * 10 + d, by rw [IntKind.wrap_u64]; omega, rfl, hst⟩
              rw [← hme] at HF2
              clear hst hpe hme
              go_wp2_with (first | (go_at_call 26; ((with_reducible refine (HD1.out _).mono ?_); rintro e w' ⟨rfl, rfl⟩)))
              go_round
              case rel => exact ⟨pos + 1, m, by omega, by go_num, rfl, hml, HF2.out⟩
              case measure => simp [intOf]; omega
            · have HN : Hid (o = none) := Lib.hid (by
                have h2 := HF.out
                rw [HS.out] at h2
                exact h2.symm.trans (vf_stop (b := 10) (v := n) (c := D[pos]'hlt) (r := D.data.toList.drop (pos + 1)) hst))
              generalize digR (D[pos]'hlt).toNat = d at *
              obtain ⟨q, hq⟩ : ∃ q : Nat, (18446744073709551615 - (d : Int)) / 10 = (q : Int) := ⟨(18446744073709551615 - d) / 10, by omega⟩
              have hgt : q < n := by omega
              clear hst
              go_wp2_with (first | (go_at_call 26; ((with_reducible refine (HD1.out _).mono ?_); rintro e w' ⟨rfl, rfl⟩)))
              go_ret2
              exact ret_two (by rw [HV.out, HN.out]; rfl)
          · have HE : Hid (o = some n) := Lib.hid (by
              have h2 := HF.out
              rw [List.drop_eq_nil_of_le (by rw [HLen.out]; omega)] at h2
              exact h2.symm)
            go_wp2
            go_ret2
            exact ret_two (by rw [HV.out, HE.out]; rfl)
  · have hbad : okL 10 D.data.toList = false := by simpa using hok
    have HV := Lib.hid (valD_bad (.inr hbad))
    have H0 := Lib.hid hbad
    clear he hok hbad
    go_enter Tryd.func9, Tryd.ntmps9
    go_wp2
    go_loop [5] (fun i => ∃ k : Nat, k ≤ D.size ∧ i = .int .i64 k ∧ okL 10 (D.data.toList.drop k) = false) (fun i => D.size - (intOf i).toNat)
    case atStart => exact ⟨0, by omega, rfl, H0.out⟩
    case round =>
      obtain ⟨k, hk, rfl, hf⟩ := hrel
      have HF := Lib.hid hf
      clear hf
      by_cases hlt : k < D.size
      · have hcl := (D[k]'hlt).toNat_lt
        have HS := Lib.hid (bytes_drop D k hlt)
        by_cases hdb : digR (D[k]'hlt).toNat < 10
        · have HD1 : Hid (∀ w, Calls Tryd.prog 26 #[.int .u8 (D[k]'hlt).toNat, .int .i64 10] w (Ret (.int .i64 (digR (D[k]'hlt).toNat : Nat)) w)) := Lib.hid fun w => by have := HDg.out _ w hcl; rwa [rdig_ok hdb] at this
          have HN : Hid (okL 10 (D.data.toList.drop (k + 1)) = false) := Lib.hid (by
            have := HF.out
            rwa [HS.out, okL_cons, decide_eq_true (show digB (D[k]'hlt) < 10 from hdb), Bool.true_and] at this)
          go_wp2_with (first | (go_at_call 26; ((with_reducible refine (HD1.out _).mono ?_); rintro e w' ⟨rfl, rfl⟩)))
          go_round
          case rel => exact ⟨k + 1, by omega, by go_num, HN.out⟩
          case measure => simp [intOf]; omega
        · have HD1 : Hid (∀ w, Calls Tryd.prog 26 #[.int .u8 (D[k]'hlt).toNat, .int .i64 10] w (Ret (.int .i64 (-1)) w)) := Lib.hid fun w => by have := HDg.out _ w hcl; rwa [rdig_bad hdb] at this
          go_wp2_with (first | (go_at_call 26; ((with_reducible refine (HD1.out _).mono ?_); rintro e w' ⟨rfl, rfl⟩)))
          go_ret2
          exact ret_two HV.out
      · exfalso
        have := HF.out
        rw [List.drop_eq_nil_of_le (by rw [HLen.out]; omega)] at this
        cases this

end Go.Proofs.YtklebljckmkdlaaDoor
