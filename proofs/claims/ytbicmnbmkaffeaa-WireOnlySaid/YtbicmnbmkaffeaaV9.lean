/- The law WireOnly, walked. -/
import Derived.Test.YtbicmnbmkaffeaaV8
import Derived.Deep.RegionHeld3
import Derived.Deep.RegionWith
namespace Go.Proofs.Ytbicmnbmkaffeaa
set_option linter.unusedVariables false
set_option linter.unusedSimpArgs false
open Go.RowKit

theorem only_put {S : ByteArray} {x m : Nat} (h : getL S.data.toList = (x, m, 0)) : putB x = S.extract 0 m := by
  refine bytes_ext ?_
  rw [putB_list, extract_list, List.drop_zero, Nat.sub_zero, (getL_only h).2.2.2.1]
theorem only_text {S : ByteArray} {x m : Nat} (h : getL S.data.toList = (x, m, 0)) (hx : m + x ≤ S.size) : textB (S.extract m (m + x)) = S.extract 0 (m + x) := by
  have e : (S.extract m (m + x)).size = x := by rw [ByteArray.size_extract]; omega
  refine bytes_ext ?_
  rw [textB_list, e, (getL_only h).2.2.2.1, extract_list, extract_list, List.drop_zero, Nat.sub_zero, Nat.add_sub_cancel_left, List.take_add]

set_option maxRecDepth 100000 in
set_option maxHeartbeats 2000000 in
theorem WireOnly_walk (S : ByteArray) (hs : S.size ≤ reachBytes) (k : Int) (hk : -9223372036854775808 ≤ k ∧ k ≤ 9223372036854775807) (w : World) :
    Calls Try.prog 9 #[.string S, .int .i64 k] w (RetB (.bool true) w) := by
  have HB := Lib.hid (Below.refl w.heap.size w)
  have rb : reachBytes < 140737488355328 := reachBytes_lt
  have hs' : S.size < 140737488355328 := by omega
  clear hs rb
  by_cases big : 2000 < S.size
  · clear hk
    go_enter Try.func9, Try.ntmps9
    go_wp2
    go_ret
    exact ⟨rfl, HB.out⟩
  · have hm : S.size ≤ maxLen := by unfold maxLen; omega
    have C1 : Hid (∀ w, Calls Try.prog 26 #[] w (RetB (.bool true) w)) := Lib.hid fun w => sent_any w
    have GI := Lib.hid fun w => GetInt_any S w hm
    have GT := Lib.hid fun w => GetText_any S k hk.1 hk.2 w hm
    have big' : S.size ≤ 2000 := by omega
    clear big hs'
    rcases getL_kind S.data.toList with ⟨x, m, h⟩ | h | h
    · obtain ⟨g1, g2, g3, g4, g5⟩ := getL_only h
      rw [list_size] at g3
      clear g4
      have HG := Lib.hid fun w => Get_ok w hm h
      rw [geti_ok h] at GI
      have HI : Hid (∀ w, Calls Try.prog 22 #[.string S] w (Ret (.tuple #[.int .i64 (zag x), .int .i64 m, .int .i64 0]) w)) := Lib.hid fun w => GI.out w
      have P1 : Hid (∀ w, Calls Try.prog 27 #[.int .u64 x] w (RetB (.string (S.extract 0 m)) w)) := Lib.hid fun w => by have := Put_at x x rfl g5 w; rwa [only_put h] at this
      have P2 : Hid (∀ w, Calls Try.prog 29 #[.int .i64 (zag x)] w (RetB (.string (S.extract 0 m)) w)) := Lib.hid fun w => by
        have := PutInt_any (zag x) (zag_b g5).1 (zag_b g5).2 w
        rwa [zig_zag, only_put h] at this
      by_cases ok : (k < 0 ∨ 1000000 < k) ∨ k < x ∨ S.size < m + x
      · have HT : Hid (∃ e : Nat, (e != 0) = true ∧ ∀ w, Calls Try.prog 24 #[.string S, .int .i64 k] w (Ret (.tuple #[.string ⟨#[]⟩, .int .i64 0, .int .i64 e]) w)) := Lib.hid (by
          by_cases c : k < 0 ∨ 1000000 < k
          · rw [getT_arg c] at GT; exact ⟨1, rfl, GT.out⟩
          · by_cases c2 : k < x
            · rw [getT_limit c h c2] at GT; exact ⟨2, rfl, GT.out⟩
            · rw [getT_more c h c2 (by omega)] at GT; exact ⟨9, rfl, GT.out⟩)
        obtain ⟨e, he, ht⟩ := HT.out
        have HT' := Lib.hid ht
        have he' : ((e : Int) != 0) = true := by simpa using he
        clear ht HT h GI GT hk he ok g5
        generalize zag x = z at *
        go_enter Try.func9, Try.ntmps9
        go_wp2_with (first | (go_at_call 20; ((with_reducible refine (HG.out _).mono ?_); rintro e w' ⟨rfl, rfl⟩)) | (go_at_call 22; ((with_reducible refine (HI.out _).mono ?_); rintro e w' ⟨rfl, rfl⟩)) | (go_at_call 24; ((with_reducible refine (HT'.out _).mono ?_); rintro e w' ⟨rfl, rfl⟩)) | (go_at_call 26; ((with_reducible refine (C1.out _).mono ?_); rintro e w' ⟨rfl, hb⟩; replace HB := Lib.hid (after HB.out hb); clear hb)))
        have q1 : decide ((m : Int) < 1) = false := by rw [decide_eq_false_iff_not]; omega
        have q2 : decide (S.size < m) = false := by rw [decide_eq_false_iff_not]; omega
        have q3 : decide ((10 : Int) < m) = false := by rw [decide_eq_false_iff_not]; omega
        have q4 : (0 : Int) ≤ m := by omega
        have q5 : (m : Int) ≤ S.size := by omega
        go_region_held3 (fun _ => True) (trivial)
          ((first
            | (go_at_call 27; refine (P1.out _).mono ?_; rintro e w' ⟨rfl, hb5⟩; have hx5 : Below w.heap.size w w' := ((Below.refl _ w).drew).trans hb5)))
        replace HB := Lib.hid hx5
        clear hx5 hb5
        go_wp2_with (first | (go_at_call 20; ((with_reducible refine (HG.out _).mono ?_); rintro e w' ⟨rfl, rfl⟩)) | (go_at_call 22; ((with_reducible refine (HI.out _).mono ?_); rintro e w' ⟨rfl, rfl⟩)) | (go_at_call 24; ((with_reducible refine (HT'.out _).mono ?_); rintro e w' ⟨rfl, rfl⟩)) | (go_at_call 26; ((with_reducible refine (C1.out _).mono ?_); rintro e w' ⟨rfl, hb⟩; replace HB := Lib.hid (after HB.out hb); clear hb)))
        go_region_held3 (fun _ => True) (trivial)
          ((first
            | (go_at_call 29; refine (P2.out _).mono ?_; rintro e w2 ⟨rfl, hb6⟩; have hx6 := after (Below.drew HB.out) hb6)))
        replace HB := Lib.hid hx6
        clear hx6 hb6
        go_wp2_with (first | (go_at_call 20; ((with_reducible refine (HG.out _).mono ?_); rintro e w' ⟨rfl, rfl⟩)) | (go_at_call 22; ((with_reducible refine (HI.out _).mono ?_); rintro e w' ⟨rfl, rfl⟩)) | (go_at_call 24; ((with_reducible refine (HT'.out _).mono ?_); rintro e w' ⟨rfl, rfl⟩)) | (go_at_call 26; ((with_reducible refine (C1.out _).mono ?_); rintro e w' ⟨rfl, hb⟩; replace HB := Lib.hid (after HB.out hb); clear hb)))
        go_ret
        exact ⟨rfl, HB.out⟩
      · have ok' : 0 ≤ k ∧ k ≤ 1000000 ∧ x ≤ k ∧ m + x ≤ S.size := by omega
        rw [getT_ok (by omega) h (by omega) (by omega)] at GT
        have HT' : Hid (∀ w, Calls Try.prog 24 #[.string S, .int .i64 k] w (Ret (.tuple #[.string (S.extract m (m + x)), .int .i64 ((m + x : Nat) : Int), .int .i64 0]) w)) := Lib.hid fun w => GT.out w
        have P3 : Hid (∀ w, Calls Try.prog 31 #[.string (S.extract m (m + x))] w (RetB (.string (S.extract 0 (m + x))) w)) := Lib.hid fun w => by
          have := PutText_any (S.extract m (m + x)) (by rw [ByteArray.size_extract]; omega) w
          rwa [only_text h ok'.2.2.2] at this
        obtain ⟨T, hT⟩ : ∃ T, T = S.extract m (m + x) := ⟨_, rfl⟩
        obtain ⟨n, hn⟩ : ∃ n, n = m + x := ⟨_, rfl⟩
        have ht : T.size = x := by rw [hT, ByteArray.size_extract]; omega
        have n1 : (T.size : Int) ≤ k := by rw [ht]; exact ok'.2.2.1
        have n2 : (n : Int) ≤ S.size := by rw [hn]; omega
        have n3 : (0 : Int) ≤ n := by omega
        rw [← hT] at P3 HT'
        rw [← hn] at P3 HT'
        clear ht hT hn h GI GT ok ok' g5
        generalize zag x = z at *
        go_enter Try.func9, Try.ntmps9
        go_wp2_with (first | (go_at_call 20; ((with_reducible refine (HG.out _).mono ?_); rintro e w' ⟨rfl, rfl⟩)) | (go_at_call 22; ((with_reducible refine (HI.out _).mono ?_); rintro e w' ⟨rfl, rfl⟩)) | (go_at_call 24; ((with_reducible refine (HT'.out _).mono ?_); rintro e w' ⟨rfl, rfl⟩)) | (go_at_call 26; ((with_reducible refine (C1.out _).mono ?_); rintro e w' ⟨rfl, hb⟩; replace HB := Lib.hid (after HB.out hb); clear hb)))
        have q1 : decide ((m : Int) < 1) = false := by rw [decide_eq_false_iff_not]; omega
        have q2 : decide (S.size < m) = false := by rw [decide_eq_false_iff_not]; omega
        have q3 : decide ((10 : Int) < m) = false := by rw [decide_eq_false_iff_not]; omega
        have q4 : (0 : Int) ≤ m := by omega
        have q5 : (m : Int) ≤ S.size := by omega
        have q6 : decide (n ≤ S.size) = true := by rw [decide_eq_true_iff]; omega
        have q7 : decide ((T.size : Int) ≤ k) = true := by rw [decide_eq_true_iff]; omega
        go_region_held3 (fun _ => True) (trivial)
          ((first
            | (go_at_call 27; refine (P1.out _).mono ?_; rintro e w' ⟨rfl, hb5⟩; have hx5 : Below w.heap.size w w' := ((Below.refl _ w).drew).trans hb5)))
        replace HB := Lib.hid hx5
        clear hx5 hb5
        go_wp2_with (first | (go_at_call 20; ((with_reducible refine (HG.out _).mono ?_); rintro e w' ⟨rfl, rfl⟩)) | (go_at_call 22; ((with_reducible refine (HI.out _).mono ?_); rintro e w' ⟨rfl, rfl⟩)) | (go_at_call 24; ((with_reducible refine (HT'.out _).mono ?_); rintro e w' ⟨rfl, rfl⟩)) | (go_at_call 26; ((with_reducible refine (C1.out _).mono ?_); rintro e w' ⟨rfl, hb⟩; replace HB := Lib.hid (after HB.out hb); clear hb)))
        go_region_held3 (fun _ => True) (trivial)
          ((first
            | (go_at_call 29; refine (P2.out _).mono ?_; rintro e w2 ⟨rfl, hb6⟩; have hx6 := after (Below.drew HB.out) hb6)))
        replace HB := Lib.hid hx6
        clear hx6 hb6
        go_wp2_with (first | (go_at_call 20; ((with_reducible refine (HG.out _).mono ?_); rintro e w' ⟨rfl, rfl⟩)) | (go_at_call 22; ((with_reducible refine (HI.out _).mono ?_); rintro e w' ⟨rfl, rfl⟩)) | (go_at_call 24; ((with_reducible refine (HT'.out _).mono ?_); rintro e w' ⟨rfl, rfl⟩)) | (go_at_call 26; ((with_reducible refine (C1.out _).mono ?_); rintro e w' ⟨rfl, hb⟩; replace HB := Lib.hid (after HB.out hb); clear hb)))
        go_region_held3 (fun _ => True) (trivial)
          ((first
            | (go_at_call 26; refine (C1.out _).mono ?_; rintro e w3 ⟨rfl, hb7⟩; have hx7 := after (Below.drew HB.out) hb7)
            | (go_at_call 31; refine (P3.out _).mono ?_; rintro e w4 ⟨rfl, hb8⟩; have hx8 := after hx7 hb8)))
        go_wp2
        go_ret
        exact ⟨rfl, hx8⟩
    · have HG := Lib.hid fun w => Get_form w hm h
      rw [geti_bad h (by decide)] at GI
      have HI : Hid (∀ w, Calls Try.prog 22 #[.string S] w (Ret (.tuple #[.int .i64 0, .int .i64 0, .int .i64 3]) w)) := Lib.hid fun w => GI.out w
      have HT : Hid (∃ e : Nat, (e != 0) = true ∧ ∀ w, Calls Try.prog 24 #[.string S, .int .i64 k] w (Ret (.tuple #[.string ⟨#[]⟩, .int .i64 0, .int .i64 e]) w)) := Lib.hid (by
        by_cases c : k < 0 ∨ 1000000 < k
        · rw [getT_arg c] at GT; exact ⟨1, rfl, GT.out⟩
        · rw [getT_bad c h (by decide)] at GT; exact ⟨3, rfl, GT.out⟩)
      obtain ⟨e, he, ht⟩ := HT.out
      have HT' := Lib.hid ht
      have he' : ((e : Int) != 0) = true := by simpa using he
      clear ht HT h GI GT hk he
      go_enter Try.func9, Try.ntmps9
      go_wp2_with (first | (go_at_call 20; ((with_reducible refine (HG.out _).mono ?_); rintro e w' ⟨rfl, rfl⟩)) | (go_at_call 22; ((with_reducible refine (HI.out _).mono ?_); rintro e w' ⟨rfl, rfl⟩)) | (go_at_call 24; ((with_reducible refine (HT'.out _).mono ?_); rintro e w' ⟨rfl, rfl⟩)) | (go_at_call 26; ((with_reducible refine (C1.out _).mono ?_); rintro e w' ⟨rfl, hb⟩; replace HB := Lib.hid (after HB.out hb); clear hb)))
      go_region
      replace HB := Lib.hid (Below.drew HB.out)
      go_wp2_with (first | (go_at_call 20; ((with_reducible refine (HG.out _).mono ?_); rintro e w' ⟨rfl, rfl⟩)) | (go_at_call 22; ((with_reducible refine (HI.out _).mono ?_); rintro e w' ⟨rfl, rfl⟩)) | (go_at_call 24; ((with_reducible refine (HT'.out _).mono ?_); rintro e w' ⟨rfl, rfl⟩)) | (go_at_call 26; ((with_reducible refine (C1.out _).mono ?_); rintro e w' ⟨rfl, hb⟩; replace HB := Lib.hid (after HB.out hb); clear hb)))
      go_region
      replace HB := Lib.hid (Below.drew HB.out)
      go_wp2_with (first | (go_at_call 20; ((with_reducible refine (HG.out _).mono ?_); rintro e w' ⟨rfl, rfl⟩)) | (go_at_call 22; ((with_reducible refine (HI.out _).mono ?_); rintro e w' ⟨rfl, rfl⟩)) | (go_at_call 24; ((with_reducible refine (HT'.out _).mono ?_); rintro e w' ⟨rfl, rfl⟩)) | (go_at_call 26; ((with_reducible refine (C1.out _).mono ?_); rintro e w' ⟨rfl, hb⟩; replace HB := Lib.hid (after HB.out hb); clear hb)))
      go_ret
      exact ⟨rfl, HB.out⟩
    · have HG := Lib.hid fun w => Get_more w hm h
      rw [geti_bad h (by decide)] at GI
      have HI : Hid (∀ w, Calls Try.prog 22 #[.string S] w (Ret (.tuple #[.int .i64 0, .int .i64 0, .int .i64 9]) w)) := Lib.hid fun w => GI.out w
      have HT : Hid (∃ e : Nat, (e != 0) = true ∧ ∀ w, Calls Try.prog 24 #[.string S, .int .i64 k] w (Ret (.tuple #[.string ⟨#[]⟩, .int .i64 0, .int .i64 e]) w)) := Lib.hid (by
        by_cases c : k < 0 ∨ 1000000 < k
        · rw [getT_arg c] at GT; exact ⟨1, rfl, GT.out⟩
        · rw [getT_bad c h (by decide)] at GT; exact ⟨9, rfl, GT.out⟩)
      obtain ⟨e, he, ht⟩ := HT.out
      have HT' := Lib.hid ht
      have he' : ((e : Int) != 0) = true := by simpa using he
      clear ht HT h GI GT hk he
      go_enter Try.func9, Try.ntmps9
      go_wp2_with (first | (go_at_call 20; ((with_reducible refine (HG.out _).mono ?_); rintro e w' ⟨rfl, rfl⟩)) | (go_at_call 22; ((with_reducible refine (HI.out _).mono ?_); rintro e w' ⟨rfl, rfl⟩)) | (go_at_call 24; ((with_reducible refine (HT'.out _).mono ?_); rintro e w' ⟨rfl, rfl⟩)) | (go_at_call 26; ((with_reducible refine (C1.out _).mono ?_); rintro e w' ⟨rfl, hb⟩; replace HB := Lib.hid (after HB.out hb); clear hb)))
      go_region
      replace HB := Lib.hid (Below.drew HB.out)
      go_wp2_with (first | (go_at_call 20; ((with_reducible refine (HG.out _).mono ?_); rintro e w' ⟨rfl, rfl⟩)) | (go_at_call 22; ((with_reducible refine (HI.out _).mono ?_); rintro e w' ⟨rfl, rfl⟩)) | (go_at_call 24; ((with_reducible refine (HT'.out _).mono ?_); rintro e w' ⟨rfl, rfl⟩)) | (go_at_call 26; ((with_reducible refine (C1.out _).mono ?_); rintro e w' ⟨rfl, hb⟩; replace HB := Lib.hid (after HB.out hb); clear hb)))
      go_region
      replace HB := Lib.hid (Below.drew HB.out)
      go_wp2_with (first | (go_at_call 20; ((with_reducible refine (HG.out _).mono ?_); rintro e w' ⟨rfl, rfl⟩)) | (go_at_call 22; ((with_reducible refine (HI.out _).mono ?_); rintro e w' ⟨rfl, rfl⟩)) | (go_at_call 24; ((with_reducible refine (HT'.out _).mono ?_); rintro e w' ⟨rfl, rfl⟩)) | (go_at_call 26; ((with_reducible refine (C1.out _).mono ?_); rintro e w' ⟨rfl, hb⟩; replace HB := Lib.hid (after HB.out hb); clear hb)))
      go_ret
      exact ⟨rfl, HB.out⟩
end Go.Proofs.Ytbicmnbmkaffeaa
