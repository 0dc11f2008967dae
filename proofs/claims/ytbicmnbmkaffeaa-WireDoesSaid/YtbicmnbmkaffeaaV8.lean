/- The laws WireBack, WireMore, WireOrder, walked. -/
import Derived.Test.YtbicmnbmkaffeaaV7
import Derived.SizedLaws
namespace Go.Proofs.Ytbicmnbmkaffeaa
set_option linter.unusedVariables false
set_option linter.unusedSimpArgs false
open Go.RowKit

theorem cat_list (a b : ByteArray) : (a ++ b).data.toList = a.data.toList ++ b.data.toList := by
  rw [ByteArray.data_append, Array.toList_append]
theorem list_size (a : ByteArray) : a.data.toList.length = a.size := Array.length_toList
theorem textB_list (s : ByteArray) : (textB s).data.toList = putL s.size ++ s.data.toList := rfl
theorem textB_size (s : ByteArray) : (textB s).size = (putL s.size).length + s.size := by rw [← list_size, textB_list, List.length_append, list_size]
theorem extract_list (a : ByteArray) (i j : Nat) : (a.extract i j).data.toList = (a.data.toList.drop i).take (j - i) := by
  rw [ByteArray.data_extract, Array.toList_extract]
theorem bytes_ext {a b : ByteArray} (h : a.data.toList = b.data.toList) : a = b := by
  cases a; cases b; congr 1; exact Array.toList_inj.1 h

theorem get_put (v : Nat) (hv : v < 18446744073709551616) (more : ByteArray) : getL (putB v ++ more).data.toList = (v, (putB v).size, 0) := by
  rw [cat_list, putB_list, getL_back v _ hv, putB_size]
theorem geti_put (n : Int) (h0 : -9223372036854775808 ≤ n) (h1 : n ≤ 9223372036854775807) (more : ByteArray) : geti (putB (zig n) ++ more).data.toList = (n, (putB (zig n)).size, 0) := by
  rw [geti_ok (get_put _ (zig_lt h0 h1) more), zag_zig]
theorem gett_put (s : ByteArray) (hs : s.size ≤ 2000) (more : ByteArray) : getT (textB s ++ more) 2000 = (s, (textB s).size, 0) := by
  have hg : getL (textB s ++ more).data.toList = (s.size, (putL s.size).length, 0) := by
    rw [cat_list, textB_list, List.append_assoc, getL_back _ _ (by omega)]
  rw [getT_ok (by omega) hg (by omega) (by rw [ByteArray.size_append, textB_size]; omega), textB_size]
  congr 1
  refine bytes_ext ?_
  rw [extract_list, cat_list, textB_list, List.append_assoc, List.drop_left, Nat.add_sub_cancel_left, List.take_left' (list_size s)]

set_option maxRecDepth 100000 in
set_option maxHeartbeats 2000000 in
theorem WireBack_walk (v : Int) (hv : 0 ≤ v ∧ v < 18446744073709551616) (n : Int) (hn : -9223372036854775808 ≤ n ∧ n ≤ 9223372036854775807) (s : ByteArray) (hs : s.size ≤ reachBytes) (more : ByteArray) (hm : more.size ≤ reachBytes) (w : World) :
    Calls Try.prog 8 #[.int .u64 v, .int .i64 n, .string s, .string more] w (RetB (.bool true) w) := by
  have HB := Lib.hid (Below.refl w.heap.size w)
  have rb : reachBytes < 140737488355328 := reachBytes_lt
  have hs' : s.size < 140737488355328 := by omega
  have hm' : more.size < 140737488355328 := by omega
  clear hs hm rb
  obtain ⟨v, rfl⟩ : ∃ k : Nat, v = k := ⟨v.toNat, by omega⟩
  obtain ⟨hv0, hv1⟩ := hv
  obtain ⟨hn0, hn1⟩ := hn
  by_cases big : 2000 < s.size + more.size
  · have big' : (2000 : Int) < (s.size : Int) + more.size := by omega
    clear big
    go_enter Try.func8, Try.ntmps8
    go_wp2
    go_ret
    exact ⟨rfl, HB.out⟩
  · have big' : (s.size : Int) + more.size ≤ 2000 := by omega
    have C1 : Hid (∀ w, Calls Try.prog 26 #[] w (RetB (.bool true) w)) := Lib.hid fun w => sent_any w
    have P1 : Hid (∀ w, Calls Try.prog 27 #[.int .u64 v] w (RetB (.string (putB v)) w)) := Lib.hid fun w => Put_at v v rfl (by omega) w
    have P2 : Hid (∀ w, Calls Try.prog 29 #[.int .i64 n] w (RetB (.string (putB (zig n))) w)) := Lib.hid fun w => PutInt_any n hn0 hn1 w
    have P3 : Hid (∀ w, Calls Try.prog 31 #[.string s] w (RetB (.string (textB s)) w)) := Lib.hid fun w => PutText_any s (by omega) w
    have hx : (putB v).size ≤ 10 := by rw [putB_size]; exact (putL_len (by omega)).2.1
    have hy : (putB (zig n)).size ≤ 10 := by rw [putB_size]; exact (putL_len (zig_lt hn0 hn1)).2.1
    have hz : (textB s).size ≤ 2010 := by rw [textB_size]; have := (putL_len (v := s.size) (by omega)).2.1; omega
    have G1 : Hid (∀ w, Calls Try.prog 20 #[.string (putB v ++ more)] w (Ret (.tuple #[.int .u64 v, .int .i64 (putB v).size, .int .i64 0]) w)) := Lib.hid fun w => Get_ok w (by rw [ByteArray.size_append]; unfold maxLen; omega) (get_put v (by omega) more)
    have G2 : Hid (∀ w, Calls Try.prog 22 #[.string (putB (zig n) ++ more)] w (Ret (.tuple #[.int .i64 n, .int .i64 (putB (zig n)).size, .int .i64 0]) w)) := Lib.hid fun w => by
      have := GetInt_any (putB (zig n) ++ more) w (by rw [ByteArray.size_append]; unfold maxLen; omega)
      rw [geti_put n hn0 hn1 more] at this
      exact this
    have G3 : Hid (∀ w, Calls Try.prog 24 #[.string (textB s ++ more), .int .i64 2000] w (Ret (.tuple #[.string s, .int .i64 (textB s).size, .int .i64 0]) w)) := Lib.hid fun w => by
      have := GetText_any (textB s ++ more) 2000 (by omega) (by omega) w (by rw [ByteArray.size_append]; unfold maxLen; omega)
      rw [gett_put s (by omega) more] at this
      exact this
    clear big hv0 hv1 hn0 hn1 hs' hm'
    generalize putB v = X at *
    generalize putB (zig n) = Y at *
    generalize textB s = Z at *
    go_enter Try.func8, Try.ntmps8
    go_wp2_with (first | (go_at_call 20; ((with_reducible refine (G1.out _).mono ?_); rintro e w' ⟨rfl, rfl⟩)) | (go_at_call 22; ((with_reducible refine (G2.out _).mono ?_); rintro e w' ⟨rfl, rfl⟩)) | (go_at_call 24; ((with_reducible refine (G3.out _).mono ?_); rintro e w' ⟨rfl, rfl⟩)) | (go_at_call 27; ((with_reducible refine (P1.out _).mono ?_); rintro e w' ⟨rfl, hb⟩; replace HB := Lib.hid (after HB.out hb); clear hb)) | (go_at_call 29; ((with_reducible refine (P2.out _).mono ?_); rintro e w' ⟨rfl, hb⟩; replace HB := Lib.hid (after HB.out hb); clear hb)) | (go_at_call 31; ((with_reducible refine (P3.out _).mono ?_); rintro e w' ⟨rfl, hb⟩; replace HB := Lib.hid (after HB.out hb); clear hb)) | (go_at_call 26; ((with_reducible refine (C1.out _).mono ?_); rintro e w' ⟨rfl, hb⟩; replace HB := Lib.hid (after HB.out hb); clear hb)))
    go_ret
    exact ⟨rfl, HB.out⟩

theorem gett_more (s : ByteArray) (hs : s.size ≤ 2000) (at' : Nat) (h : at' < (textB s).size) : getT ((textB s).extract 0 at') 2000 = (⟨#[]⟩, 0, 9) := by
  rw [textB_size] at h
  have hl : ((textB s).extract 0 at').data.toList = (putL s.size ++ s.data.toList).take at' := by rw [extract_list, textB_list, List.drop_zero, Nat.sub_zero]
  by_cases c : at' < (putL s.size).length
  · exact getT_bad (by omega) (by rw [hl, List.take_append_of_le_length (by omega), getL_more _ _ (by omega) c]) (by decide)
  · have h2 : getL ((textB s).extract 0 at').data.toList = (s.size, (putL s.size).length, 0) := by
      rw [hl, List.take_append, List.take_of_length_le (by omega), getL_back _ _ (by omega)]
    refine getT_more (by omega) h2 (by omega) ?_
    rw [ByteArray.size_extract, textB_size]; omega
theorem get_more' (v : Nat) (hv : v < 18446744073709551616) (at' : Nat) (h : at' < (putB v).size) : getL ((putB v).extract 0 at').data.toList = (0, 0, 9) := by
  rw [extract_list, putB_list, List.drop_zero, Nat.sub_zero, getL_more _ _ hv (by rw [← putB_size]; exact h)]

set_option maxRecDepth 100000 in
set_option maxHeartbeats 2000000 in
theorem WireMore_walk (v : Int) (hv : 0 ≤ v ∧ v < 18446744073709551616) (s : ByteArray) (hs : s.size ≤ reachBytes) (k : Int) (hk : -9223372036854775808 ≤ k ∧ k ≤ 9223372036854775807) (w : World) :
    Calls Try.prog 10 #[.int .u64 v, .string s, .int .i64 k] w (RetB (.bool true) w) := by
  have HB := Lib.hid (Below.refl w.heap.size w)
  have rb : reachBytes < 140737488355328 := reachBytes_lt
  have hs' : s.size < 140737488355328 := by omega
  clear hs rb
  obtain ⟨v, rfl⟩ : ∃ k : Nat, v = k := ⟨v.toNat, by omega⟩
  obtain ⟨hv0, hv1⟩ := hv
  by_cases big : 2000 < s.size
  · clear hv0 hv1 hk
    go_enter Try.func10, Try.ntmps10
    go_wp2
    go_ret
    exact ⟨rfl, HB.out⟩
  · have C1 : Hid (∀ w, Calls Try.prog 26 #[] w (RetB (.bool true) w)) := Lib.hid fun w => sent_any w
    have P1 : Hid (∀ w, Calls Try.prog 27 #[.int .u64 v] w (RetB (.string (putB v)) w)) := Lib.hid fun w => Put_at v v rfl (by omega) w
    have P3 : Hid (∀ w, Calls Try.prog 31 #[.string s] w (RetB (.string (textB s)) w)) := Lib.hid fun w => PutText_any s (by omega) w
    have hx : (putB v).size ≤ 10 := by rw [putB_size]; exact (putL_len (by omega)).2.1
    have hz : (textB s).size ≤ 2010 := by rw [textB_size]; have := (putL_len (v := s.size) (by omega)).2.1; omega
    have G1 : Hid (∀ w j, j < (putB v).size → Calls Try.prog 20 #[.string ((putB v).extract 0 j)] w (Ret (.tuple #[.int .u64 0, .int .i64 0, .int .i64 9]) w)) := Lib.hid fun w j hj => Get_more w (by rw [ByteArray.size_extract]; unfold maxLen; omega) (get_more' v (by omega) j hj)
    have G3 : Hid (∀ w j, j < (textB s).size → Calls Try.prog 24 #[.string ((textB s).extract 0 j), .int .i64 2000] w (Ret (.tuple #[.string ⟨#[]⟩, .int .i64 0, .int .i64 9]) w)) := Lib.hid fun w j hj => by
      have := GetText_any ((textB s).extract 0 j) 2000 (by omega) (by omega) w (by rw [ByteArray.size_extract]; unfold maxLen; omega)
      rw [gett_more s (by omega) j hj] at this
      exact this
    have big' : s.size ≤ 2000 := by omega
    clear big hv0 hv1 hs'
    generalize putB v = X at *
    generalize textB s = Z at *
    by_cases c0 : k < 0
    · go_enter Try.func10, Try.ntmps10
      go_wp2_with (first | (go_at_call 27; ((with_reducible refine (P1.out _).mono ?_); rintro e w' ⟨rfl, hb⟩; replace HB := Lib.hid (after HB.out hb); clear hb)) | (go_at_call 31; ((with_reducible refine (P3.out _).mono ?_); rintro e w' ⟨rfl, hb⟩; replace HB := Lib.hid (after HB.out hb); clear hb)) | (go_at_call 26; ((with_reducible refine (C1.out _).mono ?_); rintro e w' ⟨rfl, hb⟩; replace HB := Lib.hid (after HB.out hb); clear hb)))
      go_ret
      exact ⟨rfl, HB.out⟩
    · obtain ⟨j, rfl⟩ : ∃ j : Nat, k = j := ⟨k.toNat, by omega⟩
      clear c0 hk
      by_cases c1 : Z.size ≤ j
      · go_enter Try.func10, Try.ntmps10
        go_wp2_with (first | (go_at_call 27; ((with_reducible refine (P1.out _).mono ?_); rintro e w' ⟨rfl, hb⟩; replace HB := Lib.hid (after HB.out hb); clear hb)) | (go_at_call 31; ((with_reducible refine (P3.out _).mono ?_); rintro e w' ⟨rfl, hb⟩; replace HB := Lib.hid (after HB.out hb); clear hb)) | (go_at_call 26; ((with_reducible refine (C1.out _).mono ?_); rintro e w' ⟨rfl, hb⟩; replace HB := Lib.hid (after HB.out hb); clear hb)))
        go_ret
        exact ⟨rfl, HB.out⟩
      · have c1' : j < Z.size := by omega
        have j0 : (0 : Int) ≤ j := by omega
        have j1 : (j : Int) ≤ Z.size := by omega
        have G3' := Lib.hid fun w => G3.out w j c1'
        clear c1
        by_cases c2 : X.size ≤ j
        · go_enter Try.func10, Try.ntmps10
          go_wp2_with (first | (go_at_call 27; ((with_reducible refine (P1.out _).mono ?_); rintro e w' ⟨rfl, hb⟩; replace HB := Lib.hid (after HB.out hb); clear hb)) | (go_at_call 31; ((with_reducible refine (P3.out _).mono ?_); rintro e w' ⟨rfl, hb⟩; replace HB := Lib.hid (after HB.out hb); clear hb)) | (go_at_call 26; ((with_reducible refine (C1.out _).mono ?_); rintro e w' ⟨rfl, hb⟩; replace HB := Lib.hid (after HB.out hb); clear hb)) | (go_at_call 24; ((with_reducible refine (G3'.out _).mono ?_); rintro e w' ⟨rfl, rfl⟩)))
          go_ret
          exact ⟨rfl, HB.out⟩
        · have c2' : j < X.size := by omega
          have j2 : (j : Int) ≤ X.size := by omega
          have G1' := Lib.hid fun w => G1.out w j c2'
          clear c2
          go_enter Try.func10, Try.ntmps10
          go_wp2_with (first | (go_at_call 27; ((with_reducible refine (P1.out _).mono ?_); rintro e w' ⟨rfl, hb⟩; replace HB := Lib.hid (after HB.out hb); clear hb)) | (go_at_call 31; ((with_reducible refine (P3.out _).mono ?_); rintro e w' ⟨rfl, hb⟩; replace HB := Lib.hid (after HB.out hb); clear hb)) | (go_at_call 26; ((with_reducible refine (C1.out _).mono ?_); rintro e w' ⟨rfl, hb⟩; replace HB := Lib.hid (after HB.out hb); clear hb)) | (go_at_call 24; ((with_reducible refine (G3'.out _).mono ?_); rintro e w' ⟨rfl, rfl⟩)) | (go_at_call 20; ((with_reducible refine (G1'.out _).mono ?_); rintro e w' ⟨rfl, rfl⟩)))
          go_ret
          exact ⟨rfl, HB.out⟩

theorem len_is {v n : Nat} (hv : v < 18446744073709551616) (h1 : 1 ≤ n) (h2 : v < 128 ^ n) (h3 : n = 1 ∨ 128 ^ (n - 1) ≤ v) : (putB v).size = n := by
  rw [putB_size]
  obtain ⟨a1, a2, a3, a4⟩ := putL_len hv
  generalize (putL v).length = m at *
  rcases Nat.lt_trichotomy m n with h | h | h
  · rcases h3 with h3 | h3
    · omega
    · have := Nat.pow_le_pow_right (n := 128) (by decide) (show m ≤ n - 1 by omega); omega
  · exact h
  · rcases a4 with a4 | a4
    · omega
    · have := Nat.pow_le_pow_right (n := 128) (by decide) (show n ≤ m - 1 by omega); omega
theorem mul_wrap (n : Nat) (h : n ≤ 8) : IntKind.u64.wrap (128 * ((128 ^ n : Nat) : Int)) = ((128 ^ (n + 1) : Nat) : Int) := by
  have := pow_b (k := n + 1) (by omega)
  rw [pow_s] at this ⊢
  rw [IntKind.wrap_u64, Int.emod_eq_of_lt (by omega) (by omega)]
  omega

set_option maxRecDepth 100000 in
set_option maxHeartbeats 2000000 in
theorem WireOrder_walk (v : Int) (hv : 0 ≤ v ∧ v < 18446744073709551616) (u : Int) (hu : 0 ≤ u ∧ u < 18446744073709551616) (w : World) :
    Calls Try.prog 11 #[.int .u64 v, .int .u64 u] w (RetB (.bool true) w) := by
  have HB := Lib.hid (Below.refl w.heap.size w)
  obtain ⟨v, rfl⟩ : ∃ k : Nat, v = k := ⟨v.toNat, by omega⟩
  obtain ⟨u, rfl⟩ : ∃ k : Nat, u = k := ⟨u.toNat, by omega⟩
  have HV : Hid (v < 18446744073709551616) := Lib.hid (by omega)
  have HU : Hid (u < 18446744073709551616) := Lib.hid (by omega)
  clear hv hu
  have C1 : Hid (∀ w, Calls Try.prog 26 #[] w (RetB (.bool true) w)) := Lib.hid fun w => sent_any w
  have P1 : Hid (∀ w, Calls Try.prog 27 #[.int .u64 v] w (RetB (.string (putB v)) w)) := Lib.hid fun w => Put_at v v rfl HV.out w
  have P2 : Hid (∀ w, Calls Try.prog 27 #[.int .u64 u] w (RetB (.string (putB u)) w)) := Lib.hid fun w => Put_at u u rfl HU.out w
  have HX : Hid (∀ n, 1 ≤ n → v < 128 ^ n → (n = 1 ∨ 128 ^ (n - 1) ≤ v) → (putB v).size = n) := Lib.hid fun n h1 h2 h3 => len_is HV.out h1 h2 h3
  have HM : Hid (v ≤ u → (putB v).size ≤ (putB u).size) := Lib.hid fun h => by rw [putB_size, putB_size]; exact putL_mono h HU.out
  have h10 : (putB v).size ≤ 10 := by rw [putB_size]; exact (putL_len HV.out).2.1
  have h01 : 1 ≤ (putB v).size := by rw [putB_size]; exact (putL_len HV.out).1
  have hy0 : (putB u).size ≤ 10 := by rw [putB_size]; exact (putL_len HU.out).2.1
  generalize putB v = X at *
  generalize putB u = Y at *
  go_enter Try.func11, Try.ntmps11
  go_wp2_with (first | (go_at_call 27; ((with_reducible refine (P1.out _).mono ?_); rintro e w' ⟨rfl, hb⟩; replace HB := Lib.hid (after HB.out hb); clear hb)) | (go_at_call 27; ((with_reducible refine (P2.out _).mono ?_); rintro e w' ⟨rfl, hb⟩; replace HB := Lib.hid (after HB.out hb); clear hb)))
  go_loop [7, 8] (fun p n => ∃ k : Nat, 1 ≤ k ∧ k ≤ 9 ∧ n = .int .i64 k ∧ p = .int .u64 ((128 ^ k : Nat) : Int) ∧ (k = 1 ∨ 128 ^ (k - 1) ≤ v)) (fun _ n => 10 - (intOf n).toNat)
  case atStart => exact ⟨1, by omega, by omega, rfl, rfl, .inl rfl⟩
  case round =>
    obtain ⟨k, hk1, hk9, rfl, rfl, hkv⟩ := hrel
    have HKV := Lib.hid hkv
    have HW : Hid (k ≤ 8 → IntKind.u64.wrap (128 * ((128 ^ k : Nat) : Int)) = ((128 ^ (k + 1) : Nat) : Int)) := Lib.hid fun h => mul_wrap k h
    clear hkv
    obtain ⟨p, hp⟩ : ∃ p : Nat, p = 128 ^ k := ⟨_, rfl⟩
    have HP := Lib.hid hp
    rw [← hp] at HW ⊢
    clear hp
    have E10 : Hid (9 ≤ k → p ≤ v → X.size = 10) := Lib.hid fun h1 h2 => HX.out 10 (by omega) (Nat.lt_of_lt_of_le HV.out (by decide)) (.inr (by have := HP.out; rw [show k = 9 by omega] at this; rw [← this]; exact h2))
    have Ek : Hid (¬ p ≤ v → X.size = k) := Lib.hid fun h1 => HX.out k hk1 (by rw [← HP.out]; omega) HKV.out
    have HPV : Hid (k ≤ 8 → p ≤ v → k + 1 = 1 ∨ 128 ^ (k + 1 - 1) ≤ v) := Lib.hid fun h1 h2 => .inr (by rw [Nat.add_sub_cancel, ← HP.out]; exact h2)
    go_wp2_with (go_at_call 26; ((with_reducible refine (C1.out _).mono ?_); rintro e w' ⟨rfl, hb⟩; replace HB := Lib.hid (after HB.out hb); clear hb))
    all_goals first
      | (go_roundw
         case rel => exact ⟨k + 1, by omega, by omega, by go_num, by rw [HW.out (by omega)], HPV.out (by omega) (by assumption)⟩
         case measure => simp [intOf]; omega)
      | (go_round
         case rel => exact ⟨k + 1, by omega, by omega, by go_num, by rw [HW.out (by omega)], HPV.out (by omega) (by assumption)⟩
         case measure => simp [intOf]; omega)
      | (go_ret
         have h1 := E10.out
         have h2 := Ek.out
         have h3 := HM.out
         first
           | exact ⟨rfl, HB.out⟩
           | exact retB_bool (by simp only [Bool.or_eq_true, Bool.and_eq_true, decide_eq_true_eq]; omega) HB.out
           | (exfalso; omega))
end Go.Proofs.Ytbicmnbmkaffeaa
