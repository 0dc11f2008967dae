/- The law NumNoughts, walked. -/
import Derived.Test.YtklebljckmkdlaaDoorN11
import Derived.Lib.RuneLoops
import Derived.Lib.Split
import Derived.Outline
namespace Go.Proofs.YtklebljckmkdlaaDoor
set_option linter.unusedVariables false
set_option linter.unusedSimpArgs false
open Go.RowKit

theorem dec_iff (c : UInt8) : digB c < 10 ↔ (48 ≤ c.toNat ∧ c.toNat ≤ 57) := by
  unfold digB
  by_cases h : 48 ≤ c.toNat ∧ c.toNat ≤ 57
  · rw [if_pos h]; simp [h]; omega
  · rw [if_neg h]; simp only [h, iff_false]; (repeat' split) <;> omega
def nb (s : ByteArray) (j : Nat) : ByteArray := ⟨(List.replicate j 48 ++ s.data.toList).toArray⟩
theorem nb_zero (s : ByteArray) : nb s 0 = s := Lib.ofBytes s
theorem nb_step (s : ByteArray) (j : Nat) : (⟨#[48]⟩ : ByteArray) ++ nb s j = nb s (j + 1) := by
  unfold nb
  rw [ByteArray.mk_append_mk, List.replicate_succ]
  simp
theorem nb_size (s : ByteArray) (j : Nat) : (nb s j).size = j + s.size := by
  show (List.replicate j 48 ++ s.data.toList).toArray.size = _
  simp
theorem nb_val (s : ByteArray) (j : Nat) (h : okL 10 s.data.toList = true) (hn : s.data.toList ≠ []) : valS (nb s j).data.toList = valS s.data.toList := by
  have e : (nb s j).data.toList = List.replicate j 48 ++ s.data.toList := rfl
  have ok : okL 10 (List.replicate j 48 ++ s.data.toList) = true := by rw [okL_app, okL_noughts 10 j (by decide), h]; rfl
  rw [e, valS_dec _ ok, valS_dec _ h]
  unfold valD
  rw [if_neg (by rw [ok]; simp [hn]), if_neg (by rw [h]; simp [hn]), vf_noughts]
theorem nb_val0 (s : ByteArray) (j : Nat) (hn : s.data.toList = []) : valS (nb s j).data.toList = if j = 0 then (0, 3) else (0, 0) := by
  have e : (nb s j).data.toList = List.replicate j 48 ++ s.data.toList := rfl
  have ok : okL 10 (List.replicate j 48 ++ s.data.toList) = true := by rw [okL_app, okL_noughts 10 j (by decide), hn]; rfl
  rw [e, valS_dec _ ok]
  by_cases hj : j = 0
  · subst hj; rw [if_pos rfl, hn]; rfl
  · rw [if_neg hj]
    refine valD_some (v := 0) ?_ (by rw [vf_noughts, hn]; rfl)
    rw [ok]
    cases j with
    | zero => exact (hj rfl).elim
    | succ j => simp [List.replicate_succ]
theorem bytes_app (a b : ByteArray) : (a ++ b).data.toList = a.data.toList ++ b.data.toList := by
  obtain ⟨a⟩ := a
  obtain ⟨b⟩ := b
  simp [ByteArray.mk_append_mk]
abbrev decS : ByteArray := ⟨#[48, 49, 50, 51, 52, 53, 54, 55, 56, 57]⟩
theorem dec_ext : ∀ d : Fin 10, (decS.extract d.val (d.val + 1)).data.toList = [dgB d.val] := by decide +kernel
theorem app_val (s : ByteArray) (d : Nat) (hd : d ≤ 9) (h : okL 10 s.data.toList = true) (hn : s.data.toList ≠ []) :
    valS (s ++ decS.extract d (d + 1)).data.toList = match vf 10 s.data.toList 0 with
      | some x => if x * 10 + d < 18446744073709551616 then (((x * 10 + d : Nat) : Int), 0) else (0, 4)
      | none => (0, 4) := by
  have hdg : digB (dgB d) = d := digB_dgB d (by omega)
  have e : (s ++ decS.extract d (d + 1)).data.toList = s.data.toList ++ [dgB d] := by rw [bytes_app, dec_ext ⟨d, by omega⟩]
  have ok : okL 10 (s.data.toList ++ [dgB d]) = true := by rw [okL_app, h]; simp [okL, hdg]; omega
  rw [e, valS_dec _ ok]
  have nb : ¬ (s.data.toList ++ [dgB d] = [] ∨ okL 10 (s.data.toList ++ [dgB d]) = false) := by rw [ok]; simp
  cases hv : vf 10 s.data.toList 0 with
  | none => exact valD_none nb (by rw [vf_more, hv]; rfl)
  | some x =>
    simp only []
    by_cases c : x * 10 + d < 18446744073709551616
    · rw [if_pos c]
      exact valD_some nb (by rw [vf_more, hv]; show vf 10 [dgB d] x = _; rw [vf_step (by rw [hdg]; exact c), hdg]; rfl)
    · rw [if_neg c]
      exact valD_none nb (by rw [vf_more, hv]; show vf 10 [dgB d] x = _; rw [vf_stop (by rw [hdg]; exact c)])

def OutG (s : ByteArray) (n d : Int) : Prop := 100 < s.size ∨ n < 0 ∨ 30 < n ∨ d < 0 ∨ 9 < d
set_option maxRecDepth 100000 in
set_option maxHeartbeats 2000000 in
theorem NumNoughts_out (s : ByteArray) (n d : Int) (w : World) (hs : s.size ≤ maxLen) (hT : Tab w) (h : OutG s n d) :
    Calls Tryd.prog 5 #[.string s, .int .i64 n, .int .i64 d] w (RetB (.bool true) w) := by
  have HT := Lib.hid hT
  have HB := Lib.hid (Below.refl w.heap.size w)
  have HC : Hid (∀ w, Tab w → Calls Tryd.prog 16 #[] w (RetB (.bool true) w)) := Lib.hid fun w h => counted_any w h
  unfold maxLen at hs
  have cs : 100 < s.size ∨ (s.size ≤ 100 ∧ n < 0) ∨ (s.size ≤ 100 ∧ 0 ≤ n ∧ 30 < n) ∨ (s.size ≤ 100 ∧ 0 ≤ n ∧ n ≤ 30 ∧ d < 0) ∨ (s.size ≤ 100 ∧ 0 ≤ n ∧ n ≤ 30 ∧ 0 ≤ d ∧ 9 < d) := by unfold OutG at h; omega
  clear hT h
  rcases cs with h1 | ⟨h1, h2⟩ | ⟨h1, h2, h3⟩ | ⟨h1, h2, h3, h4⟩ | ⟨h1, h2, h3, h4, h5⟩
  all_goals
    go_enter Tryd.func5, Tryd.ntmps5
    go_wp2_with (first | (go_at_call 16; ((with_reducible refine (HC.out _ (HT.out.below HB.out)).mono ?_); rintro e w' ⟨rfl, hb⟩; replace HB := Lib.hid (after HB.out hb); clear hb)))
    go_ret
    exact ⟨rfl, HB.out⟩

set_option maxRecDepth 100000 in
set_option maxHeartbeats 2000000 in
theorem NumNoughts_bad (s : ByteArray) (n d : Nat) (w : World) (hs : s.size ≤ 100) (hn : n ≤ 30) (hd : d ≤ 9) (hT : Tab w) (hbad : okL 10 s.data.toList = false) :
    Calls Tryd.prog 5 #[.string s, .int .i64 n, .int .i64 d] w (RetB (.bool true) w) := by
  have HT := Lib.hid hT
  have HB := Lib.hid (Below.refl w.heap.size w)
  have HC : Hid (∀ w, Tab w → Calls Tryd.prog 16 #[] w (RetB (.bool true) w)) := Lib.hid fun w h => counted_any w h
  have HL := Lib.hid (bytes_len s)
  have H0 := Lib.hid hbad
  clear hT hbad
  go_enter Tryd.func5, Tryd.ntmps5
  go_wp2
  go_loop [7] (fun i => ∃ k : Nat, k ≤ s.size ∧ i = .int .i64 k ∧ okL 10 (s.data.toList.drop k) = false) (fun i => s.size - (intOf i).toNat)
  case atStart => exact ⟨0, by omega, rfl, H0.out⟩
  case round =>
    obtain ⟨k, hk, rfl, hf⟩ := hrel
    have HF := Lib.hid hf
    clear hf
    by_cases hlt : k < s.size
    · have HS := Lib.hid (bytes_drop s k hlt)
      by_cases hc : 48 ≤ (s[k]'hlt).toNat ∧ (s[k]'hlt).toNat ≤ 57
      · obtain ⟨c1, c2⟩ := hc
        have HN : Hid (okL 10 (s.data.toList.drop (k + 1)) = false) := Lib.hid (by
          have := HF.out
          rwa [HS.out, okL_cons, decide_eq_true ((dec_iff _).2 ⟨c1, c2⟩), Bool.true_and] at this)
        go_wp2
        go_round
        case rel => exact ⟨k + 1, by omega, by go_num, HN.out⟩
        case measure => simp [intOf]; omega
      · have hc2 : (s[k]'hlt).toNat < 48 ∨ (48 ≤ (s[k]'hlt).toNat ∧ 57 < (s[k]'hlt).toNat) := by omega
        clear hc
        rcases hc2 with c1 | ⟨c1, c2⟩
        all_goals
          go_wp2_with (first | (go_at_call 16; ((with_reducible refine (HC.out _ (HT.out.below HB.out)).mono ?_); rintro e w' ⟨rfl, hb⟩; replace HB := Lib.hid (after HB.out hb); clear hb)))
          go_ret
          exact ⟨rfl, HB.out⟩
    · exfalso
      have := HF.out
      rw [List.drop_eq_nil_of_le (by rw [HL.out]; omega)] at this
      cases this

set_option maxRecDepth 100000 in
set_option maxHeartbeats 4000000 in
theorem NumNoughts_e0 (s : ByteArray) (n d : Nat) (w : World) (hs : s.size ≤ 100) (hn : n ≤ 30) (hd : d ≤ 9) (hT : Tab w) (hok : okL 10 s.data.toList = true) (he : s.data.toList = []) (h0 : n = 0) :
    Calls Tryd.prog 5 #[.string s, .int .i64 n, .int .i64 d] w (RetB (.bool true) w) := by
  have HT := Lib.hid hT
  have HB := Lib.hid (Below.refl w.heap.size w)
  have HC : Hid (∀ w, Tab w → Calls Tryd.prog 16 #[] w (RetB (.bool true) w)) := Lib.hid fun w h => counted_any w h
  have HL := Lib.hid (bytes_len s)
  have H0 := Lib.hid hok
  have V1 : Hid (∀ w, Calls Tryd.prog 8 #[.string s] w (RetB (.tuple #[.int .u64 0, .int .i64 3]) w)) := Lib.hid fun w => by have := Value_any s w; rwa [he] at this
  have V2 : Hid (∀ w, Calls Tryd.prog 8 #[.string (nb s n)] w (RetB (.tuple #[.int .u64 0, .int .i64 3]) w)) := Lib.hid fun w => by have := Value_any (nb s n) w; rwa [nb_val0 s n he, if_pos h0] at this
  have e1 : s.toList.isEmpty = true := by rw [Lib.toList_data, he]; rfl
  have e2 : s.toList = [] := by rw [Lib.toList_data]; exact he
  have qn : ((n : Int) == 0) = true := by rw [beq_iff_eq]; omega
  clear he h0
  clear hT hok
  go_enter Tryd.func5, Tryd.ntmps5
  go_wp2
  go_loop [7] (fun i => ∃ k : Nat, k ≤ s.size ∧ i = .int .i64 k) (fun i => s.size - (intOf i).toNat)
  case atStart => exact ⟨0, by omega, rfl⟩
  case round =>
    obtain ⟨k, hk, rfl⟩ := hrel
    by_cases hlt : k < s.size
    · obtain ⟨c1, c2⟩ : 48 ≤ (s[k]'hlt).toNat ∧ (s[k]'hlt).toNat ≤ 57 := (dec_iff _).1 (by have := okL_drop H0.out k (by rw [HL.out]; exact hlt); exact this)
      go_wp2
      go_round
      case rel => exact ⟨k + 1, by omega, by go_num⟩
      case measure => simp [intOf]; omega
    · go_wp2_with (first | (go_at_call 8; ((with_reducible refine (V1.out _).mono ?_); rintro e w' ⟨rfl, hb⟩; replace HB := Lib.hid (after HB.out hb); clear hb)))
      go_loop [10, 11] (fun t i => ∃ j : Nat, j ≤ n ∧ i = .int .i64 j ∧ t = .string (nb s j)) (fun _ i => n - (intOf i).toNat)
      case atStart => exact ⟨0, by omega, rfl, by rw [nb_zero]⟩
      case round =>
        obtain ⟨j, hj, rfl, rfl⟩ := hrel
        have HSt := Lib.hid (nb_step s j)
        have hsz : (nb s j).size ≤ 130 := by rw [nb_size]; omega
        by_cases hlj : j < n
        · go_wp2
          go_round
          case rel => exact ⟨j + 1, by omega, by go_num, by rw [← HSt.out]⟩
          case measure => simp [intOf]; omega
        · obtain rfl : j = n := by omega
          clear HSt
          generalize nb s j = t at *
          go_wp2_with (first | (go_at_call 8; ((with_reducible refine (V2.out _).mono ?_); rintro e w' ⟨rfl, hb⟩; replace HB := Lib.hid (after HB.out hb); clear hb)) | (go_at_call 16; ((with_reducible refine (HC.out _ (HT.out.below HB.out)).mono ?_); rintro e w' ⟨rfl, hb⟩; replace HB := Lib.hid (after HB.out hb); clear hb)))
          all_goals
            go_ret
            exact retB_bool (by first | rfl | (simp; done) | (simp; omega)) HB.out

set_option maxRecDepth 100000 in
set_option maxHeartbeats 4000000 in
theorem NumNoughts_e1 (s : ByteArray) (n d : Nat) (w : World) (hs : s.size ≤ 100) (hn : n ≤ 30) (hd : d ≤ 9) (hT : Tab w) (hok : okL 10 s.data.toList = true) (he : s.data.toList = []) (h0 : ¬ n = 0) :
    Calls Tryd.prog 5 #[.string s, .int .i64 n, .int .i64 d] w (RetB (.bool true) w) := by
  have HT := Lib.hid hT
  have HB := Lib.hid (Below.refl w.heap.size w)
  have HC : Hid (∀ w, Tab w → Calls Tryd.prog 16 #[] w (RetB (.bool true) w)) := Lib.hid fun w h => counted_any w h
  have HL := Lib.hid (bytes_len s)
  have H0 := Lib.hid hok
  have V1 : Hid (∀ w, Calls Tryd.prog 8 #[.string s] w (RetB (.tuple #[.int .u64 0, .int .i64 3]) w)) := Lib.hid fun w => by have := Value_any s w; rwa [he] at this
  have V2 : Hid (∀ w, Calls Tryd.prog 8 #[.string (nb s n)] w (RetB (.tuple #[.int .u64 0, .int .i64 0]) w)) := Lib.hid fun w => by have := Value_any (nb s n) w; rwa [nb_val0 s n he, if_neg h0] at this
  have e1 : s.toList.isEmpty = true := by rw [Lib.toList_data, he]; rfl
  have e2 : s.toList = [] := by rw [Lib.toList_data]; exact he
  have qn : ((n : Int) == 0) = false := by rw [beq_eq_false_iff_ne]; omega
  clear he h0
  clear hT hok
  go_enter Tryd.func5, Tryd.ntmps5
  go_wp2
  go_loop [7] (fun i => ∃ k : Nat, k ≤ s.size ∧ i = .int .i64 k) (fun i => s.size - (intOf i).toNat)
  case atStart => exact ⟨0, by omega, rfl⟩
  case round =>
    obtain ⟨k, hk, rfl⟩ := hrel
    by_cases hlt : k < s.size
    · obtain ⟨c1, c2⟩ : 48 ≤ (s[k]'hlt).toNat ∧ (s[k]'hlt).toNat ≤ 57 := (dec_iff _).1 (by have := okL_drop H0.out k (by rw [HL.out]; exact hlt); exact this)
      go_wp2
      go_round
      case rel => exact ⟨k + 1, by omega, by go_num⟩
      case measure => simp [intOf]; omega
    · go_wp2_with (first | (go_at_call 8; ((with_reducible refine (V1.out _).mono ?_); rintro e w' ⟨rfl, hb⟩; replace HB := Lib.hid (after HB.out hb); clear hb)))
      go_loop [10, 11] (fun t i => ∃ j : Nat, j ≤ n ∧ i = .int .i64 j ∧ t = .string (nb s j)) (fun _ i => n - (intOf i).toNat)
      case atStart => exact ⟨0, by omega, rfl, by rw [nb_zero]⟩
      case round =>
        obtain ⟨j, hj, rfl, rfl⟩ := hrel
        have HSt := Lib.hid (nb_step s j)
        have hsz : (nb s j).size ≤ 130 := by rw [nb_size]; omega
        by_cases hlj : j < n
        · go_wp2
          go_round
          case rel => exact ⟨j + 1, by omega, by go_num, by rw [← HSt.out]⟩
          case measure => simp [intOf]; omega
        · obtain rfl : j = n := by omega
          clear HSt
          generalize nb s j = t at *
          go_wp2_with (first | (go_at_call 8; ((with_reducible refine (V2.out _).mono ?_); rintro e w' ⟨rfl, hb⟩; replace HB := Lib.hid (after HB.out hb); clear hb)) | (go_at_call 16; ((with_reducible refine (HC.out _ (HT.out.below HB.out)).mono ?_); rintro e w' ⟨rfl, hb⟩; replace HB := Lib.hid (after HB.out hb); clear hb)))
          all_goals
            go_ret
            exact retB_bool (by first | rfl | (simp; done) | (simp; omega)) HB.out

set_option maxRecDepth 100000 in
set_option maxHeartbeats 4000000 in
theorem NumNoughts_none (s : ByteArray) (n d : Nat) (w : World) (hs : s.size ≤ 100) (hn : n ≤ 30) (hd : d ≤ 9) (hT : Tab w) (hok : okL 10 s.data.toList = true) (hne : s.data.toList ≠ []) (hvf : vf 10 s.data.toList 0 = none) :
    Calls Tryd.prog 5 #[.string s, .int .i64 n, .int .i64 d] w (RetB (.bool true) w) := by
  have HT := Lib.hid hT
  have HB := Lib.hid (Below.refl w.heap.size w)
  have HC : Hid (∀ w, Tab w → Calls Tryd.prog 16 #[] w (RetB (.bool true) w)) := Lib.hid fun w h => counted_any w h
  have HL := Lib.hid (bytes_len s)
  have H0 := Lib.hid hok
  have hv := valS_dec s.data.toList hok
  have hg : ¬ (s.data.toList = [] ∨ okL 10 s.data.toList = false) := by rw [hok]; simp [hne]
  have hval : valS s.data.toList = (0, 4) := by rw [hv]; exact valD_none hg hvf
  have V1 : Hid (∀ w, Calls Tryd.prog 8 #[.string s] w (RetB (.tuple #[.int .u64 0, .int .i64 4]) w)) := Lib.hid fun w => by have := Value_any s w; rwa [hval] at this
  have V2 : Hid (∀ w, Calls Tryd.prog 8 #[.string (nb s n)] w (RetB (.tuple #[.int .u64 0, .int .i64 4]) w)) := Lib.hid fun w => by have := Value_any (nb s n) w; rwa [nb_val s n hok hne, hval] at this
  have V3 : Hid (∀ w, Calls Tryd.prog 8 #[.string (s ++ (⟨#[48, 49, 50, 51, 52, 53, 54, 55, 56, 57]⟩ : ByteArray).extract d (d + 1))] w (RetB (.tuple #[.int .u64 0, .int .i64 4]) w)) := Lib.hid fun w => by
    have := Value_any (s ++ decS.extract d (d + 1)) w
    rw [app_val s d hd hok hne, hvf] at this
    skip
    exact this
  have e1 : s.toList.isEmpty = false := by rw [Lib.toList_data]; exact List.isEmpty_eq_false_iff.2 hne
  have e2 : (s.toList = []) = False := by rw [Lib.toList_data]; exact eq_false hne
  have hx9 : ((⟨#[48, 49, 50, 51, 52, 53, 54, 55, 56, 57]⟩ : ByteArray).extract d (d + 1)).size ≤ 10 := by
    have h := dec_ext ⟨d, by omega⟩
    have h2 := congrArg List.length h
    rw [bytes_len] at h2
    exact Nat.le_trans (Nat.le_of_eq h2) (by simp)
  clear hval hv hg hne hvf
  clear hT hok
  go_enter Tryd.func5, Tryd.ntmps5
  go_wp2
  go_loop [7] (fun i => ∃ k : Nat, k ≤ s.size ∧ i = .int .i64 k) (fun i => s.size - (intOf i).toNat)
  case atStart => exact ⟨0, by omega, rfl⟩
  case round =>
    obtain ⟨k, hk, rfl⟩ := hrel
    by_cases hlt : k < s.size
    · obtain ⟨c1, c2⟩ : 48 ≤ (s[k]'hlt).toNat ∧ (s[k]'hlt).toNat ≤ 57 := (dec_iff _).1 (by have := okL_drop H0.out k (by rw [HL.out]; exact hlt); exact this)
      go_wp2
      go_round
      case rel => exact ⟨k + 1, by omega, by go_num⟩
      case measure => simp [intOf]; omega
    · go_wp2_with (first | (go_at_call 8; ((with_reducible refine (V1.out _).mono ?_); rintro e w' ⟨rfl, hb⟩; replace HB := Lib.hid (after HB.out hb); clear hb)))
      go_loop [10, 11] (fun t i => ∃ j : Nat, j ≤ n ∧ i = .int .i64 j ∧ t = .string (nb s j)) (fun _ i => n - (intOf i).toNat)
      case atStart => exact ⟨0, by omega, rfl, by rw [nb_zero]⟩
      case round =>
        obtain ⟨j, hj, rfl, rfl⟩ := hrel
        have HSt := Lib.hid (nb_step s j)
        have hsz : (nb s j).size ≤ 130 := by rw [nb_size]; omega
        by_cases hlj : j < n
        · go_wp2
          go_round
          case rel => exact ⟨j + 1, by omega, by go_num, by rw [← HSt.out]⟩
          case measure => simp [intOf]; omega
        · obtain rfl : j = n := by omega
          clear HSt
          generalize nb s j = t at *
          go_wp2_with (first | (go_at_call 8; ((with_reducible refine (V2.out _).mono ?_); rintro e w' ⟨rfl, hb⟩; replace HB := Lib.hid (after HB.out hb); clear hb)) | (go_at_call 8; ((with_reducible refine (V3.out _).mono ?_); rintro e w' ⟨rfl, hb⟩; replace HB := Lib.hid (after HB.out hb); clear hb)) | (go_at_call 16; ((with_reducible refine (HC.out _ (HT.out.below HB.out)).mono ?_); rintro e w' ⟨rfl, hb⟩; replace HB := Lib.hid (after HB.out hb); clear hb)))
          all_goals
            go_ret
            exact retB_bool (by first | rfl | (simp; done) | (simp; omega)) HB.out

set_option maxRecDepth 100000 in
set_option maxHeartbeats 4000000 in
theorem NumNoughts_good (s : ByteArray) (n d : Nat) (w : World) (hs : s.size ≤ 100) (hn : n ≤ 30) (hd : d ≤ 9) (hT : Tab w) (hok : okL 10 s.data.toList = true) (hne : s.data.toList ≠ []) (x : Nat) (hvf : vf 10 s.data.toList 0 = some x) (hx : x * 10 + d < 18446744073709551616) :
    Calls Tryd.prog 5 #[.string s, .int .i64 n, .int .i64 d] w (RetB (.bool true) w) := by
  have HT := Lib.hid hT
  have HB := Lib.hid (Below.refl w.heap.size w)
  have HC : Hid (∀ w, Tab w → Calls Tryd.prog 16 #[] w (RetB (.bool true) w)) := Lib.hid fun w h => counted_any w h
  have HL := Lib.hid (bytes_len s)
  have H0 := Lib.hid hok
  have hv := valS_dec s.data.toList hok
  have hg : ¬ (s.data.toList = [] ∨ okL 10 s.data.toList = false) := by rw [hok]; simp [hne]
  have hval : valS s.data.toList = ((x : Int), 0) := by rw [hv]; exact valD_some hg hvf
  have V1 : Hid (∀ w, Calls Tryd.prog 8 #[.string s] w (RetB (.tuple #[.int .u64 (x : Int), .int .i64 0]) w)) := Lib.hid fun w => by have := Value_any s w; rwa [hval] at this
  have V2 : Hid (∀ w, Calls Tryd.prog 8 #[.string (nb s n)] w (RetB (.tuple #[.int .u64 (x : Int), .int .i64 0]) w)) := Lib.hid fun w => by have := Value_any (nb s n) w; rwa [nb_val s n hok hne, hval] at this
  have V3 : Hid (∀ w, Calls Tryd.prog 8 #[.string (s ++ (⟨#[48, 49, 50, 51, 52, 53, 54, 55, 56, 57]⟩ : ByteArray).extract d (d + 1))] w (RetB (.tuple #[.int .u64 ((x * 10 + d : Nat) : Int), .int .i64 0]) w)) := Lib.hid fun w => by
    have := Value_any (s ++ decS.extract d (d + 1)) w
    rw [app_val s d hd hok hne, hvf] at this
    simp only [] at this
    rw [if_pos hx] at this
    exact this
  have e1 : s.toList.isEmpty = false := by rw [Lib.toList_data]; exact List.isEmpty_eq_false_iff.2 hne
  have e2 : (s.toList = []) = False := by rw [Lib.toList_data]; exact eq_false hne
  have hx9 : ((⟨#[48, 49, 50, 51, 52, 53, 54, 55, 56, 57]⟩ : ByteArray).extract d (d + 1)).size ≤ 10 := by
    have h := dec_ext ⟨d, by omega⟩
    have h2 := congrArg List.length h
    rw [bytes_len] at h2
    exact Nat.le_trans (Nat.le_of_eq h2) (by simp)
  clear hval hv hg hne hvf
  clear hT hok
  go_enter Tryd.func5, Tryd.ntmps5
  go_wp2
  go_loop [7] (fun i => ∃ k : Nat, k ≤ s.size ∧ i = .int .i64 k) (fun i => s.size - (intOf i).toNat)
  case atStart => exact ⟨0, by omega, rfl⟩
  case round =>
    obtain ⟨k, hk, rfl⟩ := hrel
    by_cases hlt : k < s.size
    · obtain ⟨c1, c2⟩ : 48 ≤ (s[k]'hlt).toNat ∧ (s[k]'hlt).toNat ≤ 57 := (dec_iff _).1 (by have := okL_drop H0.out k (by rw [HL.out]; exact hlt); exact this)
      go_wp2
      go_round
      case rel => exact ⟨k + 1, by omega, by go_num⟩
      case measure => simp [intOf]; omega
    · go_wp2_with (first | (go_at_call 8; ((with_reducible refine (V1.out _).mono ?_); rintro e w' ⟨rfl, hb⟩; replace HB := Lib.hid (after HB.out hb); clear hb)))
      go_loop [10, 11] (fun t i => ∃ j : Nat, j ≤ n ∧ i = .int .i64 j ∧ t = .string (nb s j)) (fun _ i => n - (intOf i).toNat)
      case atStart => exact ⟨0, by omega, rfl, by rw [nb_zero]⟩
      case round =>
        obtain ⟨j, hj, rfl, rfl⟩ := hrel
        have HSt := Lib.hid (nb_step s j)
        have hsz : (nb s j).size ≤ 130 := by rw [nb_size]; omega
        by_cases hlj : j < n
        · go_wp2
          go_round
          case rel => exact ⟨j + 1, by omega, by go_num, by rw [← HSt.out]⟩
          case measure => simp [intOf]; omega
        · obtain rfl : j = n := by omega
          clear HSt
          generalize nb s j = t at *
          go_wp2_with (first | (go_at_call 8; ((with_reducible refine (V2.out _).mono ?_); rintro e w' ⟨rfl, hb⟩; replace HB := Lib.hid (after HB.out hb); clear hb)) | (go_at_call 8; ((with_reducible refine (V3.out _).mono ?_); rintro e w' ⟨rfl, hb⟩; replace HB := Lib.hid (after HB.out hb); clear hb)) | (go_at_call 16; ((with_reducible refine (HC.out _ (HT.out.below HB.out)).mono ?_); rintro e w' ⟨rfl, hb⟩; replace HB := Lib.hid (after HB.out hb); clear hb)))
          all_goals
            go_ret
            exact retB_bool (by first | rfl | (simp; done) | (simp; omega)) HB.out

set_option maxRecDepth 100000 in
set_option maxHeartbeats 4000000 in
theorem NumNoughts_great (s : ByteArray) (n d : Nat) (w : World) (hs : s.size ≤ 100) (hn : n ≤ 30) (hd : d ≤ 9) (hT : Tab w) (hok : okL 10 s.data.toList = true) (hne : s.data.toList ≠ []) (x : Nat) (hvf : vf 10 s.data.toList 0 = some x) (hxl : x < 18446744073709551616) (hx : ¬ x * 10 + d < 18446744073709551616) :
    Calls Tryd.prog 5 #[.string s, .int .i64 n, .int .i64 d] w (RetB (.bool true) w) := by
  have HT := Lib.hid hT
  have HB := Lib.hid (Below.refl w.heap.size w)
  have HC : Hid (∀ w, Tab w → Calls Tryd.prog 16 #[] w (RetB (.bool true) w)) := Lib.hid fun w h => counted_any w h
  have HL := Lib.hid (bytes_len s)
  have H0 := Lib.hid hok
  have hv := valS_dec s.data.toList hok
  have hg : ¬ (s.data.toList = [] ∨ okL 10 s.data.toList = false) := by rw [hok]; simp [hne]
  have hval : valS s.data.toList = ((x : Int), 0) := by rw [hv]; exact valD_some hg hvf
  have V1 : Hid (∀ w, Calls Tryd.prog 8 #[.string s] w (RetB (.tuple #[.int .u64 (x : Int), .int .i64 0]) w)) := Lib.hid fun w => by have := Value_any s w; rwa [hval] at this
  have V2 : Hid (∀ w, Calls Tryd.prog 8 #[.string (nb s n)] w (RetB (.tuple #[.int .u64 (x : Int), .int .i64 0]) w)) := Lib.hid fun w => by have := Value_any (nb s n) w; rwa [nb_val s n hok hne, hval] at this
  have V3 : Hid (∀ w, Calls Tryd.prog 8 #[.string (s ++ (⟨#[48, 49, 50, 51, 52, 53, 54, 55, 56, 57]⟩ : ByteArray).extract d (d + 1))] w (RetB (.tuple #[.int .u64 0, .int .i64 4]) w)) := Lib.hid fun w => by
    have := Value_any (s ++ decS.extract d (d + 1)) w
    rw [app_val s d hd hok hne, hvf] at this
    simp only [] at this
    rw [if_neg hx] at this
    exact this
  have e1 : s.toList.isEmpty = false := by rw [Lib.toList_data]; exact List.isEmpty_eq_false_iff.2 hne
  have e2 : (s.toList = []) = False := by rw [Lib.toList_data]; exact eq_false hne
  have hx9 : ((⟨#[48, 49, 50, 51, 52, 53, 54, 55, 56, 57]⟩ : ByteArray).extract d (d + 1)).size ≤ 10 := by
    have h := dec_ext ⟨d, by omega⟩
    have h2 := congrArg List.length h
    rw [bytes_len] at h2
    exact Nat.le_trans (Nat.le_of_eq h2) (by simp)
  clear hval hv hg hne hvf
  clear hT hok
  go_enter Tryd.func5, Tryd.ntmps5
  go_wp2
  go_loop [7] (fun i => ∃ k : Nat, k ≤ s.size ∧ i = .int .i64 k) (fun i => s.size - (intOf i).toNat)
  case atStart => exact ⟨0, by omega, rfl⟩
  case round =>
    obtain ⟨k, hk, rfl⟩ := hrel
    by_cases hlt : k < s.size
    · obtain ⟨c1, c2⟩ : 48 ≤ (s[k]'hlt).toNat ∧ (s[k]'hlt).toNat ≤ 57 := (dec_iff _).1 (by have := okL_drop H0.out k (by rw [HL.out]; exact hlt); exact this)
      go_wp2
      go_round
      case rel => exact ⟨k + 1, by omega, by go_num⟩
      case measure => simp [intOf]; omega
    · go_wp2_with (first | (go_at_call 8; ((with_reducible refine (V1.out _).mono ?_); rintro e w' ⟨rfl, hb⟩; replace HB := Lib.hid (after HB.out hb); clear hb)))
      go_loop [10, 11] (fun t i => ∃ j : Nat, j ≤ n ∧ i = .int .i64 j ∧ t = .string (nb s j)) (fun _ i => n - (intOf i).toNat)
      case atStart => exact ⟨0, by omega, rfl, by rw [nb_zero]⟩
      case round =>
        obtain ⟨j, hj, rfl, rfl⟩ := hrel
        have HSt := Lib.hid (nb_step s j)
        have hsz : (nb s j).size ≤ 130 := by rw [nb_size]; omega
        by_cases hlj : j < n
        · go_wp2
          go_round
          case rel => exact ⟨j + 1, by omega, by go_num, by rw [← HSt.out]⟩
          case measure => simp [intOf]; omega
        · obtain rfl : j = n := by omega
          clear HSt
          generalize nb s j = t at *
          go_wp2_with (first | (go_at_call 8; ((with_reducible refine (V2.out _).mono ?_); rintro e w' ⟨rfl, hb⟩; replace HB := Lib.hid (after HB.out hb); clear hb)) | (go_at_call 8; ((with_reducible refine (V3.out _).mono ?_); rintro e w' ⟨rfl, hb⟩; replace HB := Lib.hid (after HB.out hb); clear hb)) | (go_at_call 16; ((with_reducible refine (HC.out _ (HT.out.below HB.out)).mono ?_); rintro e w' ⟨rfl, hb⟩; replace HB := Lib.hid (after HB.out hb); clear hb)))
          all_goals
            go_ret
            exact retB_bool (by first | rfl | (simp; done) | (simp; omega)) HB.out

theorem NumNoughts_walk (s : ByteArray) (hs : s.size ≤ maxLen) (n : Int) (hn : -9223372036854775808 ≤ n ∧ n ≤ 9223372036854775807) (d : Int) (hd : -9223372036854775808 ≤ d ∧ d ≤ 9223372036854775807) (w : World) (hT : Tab w) :
    Calls Tryd.prog 5 #[.string s, .int .i64 n, .int .i64 d] w (RetB (.bool true) w) := by
  by_cases hg : OutG s n d
  · exact NumNoughts_out s n d w hs hT hg
  unfold OutG at hg
  obtain ⟨n, rfl⟩ := Int.eq_ofNat_of_zero_le (show 0 ≤ n by omega)
  obtain ⟨d, rfl⟩ := Int.eq_ofNat_of_zero_le (show 0 ≤ d by omega)
  have h1 : s.size ≤ 100 := by omega
  have h2 : n ≤ 30 := by omega
  have h3 : d ≤ 9 := by omega
  cases hok : okL 10 s.data.toList with
  | false => exact NumNoughts_bad s n d w h1 h2 h3 hT hok
  | true =>
    by_cases he : s.data.toList = []
    · by_cases h0 : n = 0
      · exact NumNoughts_e0 s n d w h1 h2 h3 hT hok he h0
      · exact NumNoughts_e1 s n d w h1 h2 h3 hT hok he h0
    · cases hv : vf 10 s.data.toList 0 with
      | none => exact NumNoughts_none s n d w h1 h2 h3 hT hok he hv
      | some x =>
        by_cases hx : x * 10 + d < 18446744073709551616
        · exact NumNoughts_good s n d w h1 h2 h3 hT hok he x hv hx
        · exact NumNoughts_great s n d w h1 h2 h3 hT hok he x hv (vf_lt _ _ _ _ (by decide) hv) hx
end Go.Proofs.YtklebljckmkdlaaDoor
