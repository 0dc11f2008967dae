/- PlaceFar, PlaceUp and PlaceBack return true, for every input. -/
import Derived.Test.YtpjidjanhonikaaG4
namespace Go.Proofs.Ytpjidjanhonikaa
set_option linter.unusedVariables false
set_option linter.unusedSimpArgs false
open Go.RowKit

set_option maxHeartbeats 400000 in
theorem PlaceFar_walk (f : Int) (hf : 0 ≤ f ∧ f < 18446744073709551616) (t : Int) (ht : 0 ≤ t ∧ t < 18446744073709551616) (r : Int) (hr : -9223372036854775808 ≤ r ∧ r ≤ 9223372036854775807) (w : World) :
    Calls Try.prog 4 #[.int .u64 f, .int .u64 t, .int .i64 r] w (RetB (.bool true) w) := by
  go_enter Try.func4, Try.ntmps4
  go_wp2_with (first | (go_at_call 18; refine (far_any _ _ _ hf.1 hf.2 ht.1 ht.2).mono ?_; rintro e w' ⟨rfl, rfl⟩) | (go_at_call 19; refine (refFar_any _ _ _ hf.1 hf.2 ht.1 ht.2).mono ?_; rintro e w' ⟨rfl, rfl⟩) | (go_at_call 20; refine (near_any _ _ _ _ hf.1 hf.2 ht.1 ht.2 hr.1 hr.2).mono ?_; rintro e w' ⟨rfl, rfl⟩) | (go_at_call 21; refine (refNear_any _ _ _ _ hf.1 hf.2 ht.1 ht.2 hr.1 hr.2).mono ?_; rintro e w' ⟨rfl, rfl⟩) | (go_at_call 14; refine (laid_any _).mono ?_; rintro e w' ⟨rfl, hb⟩))
  go_ret
  exact retB_bool rfl hb

theorem up_all (a n : Int) (h0 : 0 ≤ a) (h1 : a ≤ 9223372036854775808) (n0 : 0 ≤ n) (n1 : n ≤ 12) :
    ∃ u p : Int, p = 2 ^ n.toNat ∧ 1 ≤ p ∧ p ≤ 4096 ∧ upS a n = (u, 0) ∧ a ≤ u ∧ u < a + p ∧ u % p = 0 ∧ u ≤ 9223372036854775808 := by
  have hu := up_facts a n h0 h1 n0 n1
  have hp := pow12 n n1
  refine ⟨_, _, rfl, hp.1, hp.2, upS2 n0 n1 h1, hu.1, hu.2.1, hu.2.2, ?_⟩
  apply Classical.byContradiction
  intro hn
  refine not_mult 9223372036854775808 _ (2 ^ n.toNat) (by omega) hu.2.2 (by omega) (by omega) ?_
  have e : (9223372036854775808 : Int) = 2 ^ n.toNat * 2 ^ (63 - n.toNat) := by
    rw [← Int.pow_add, show n.toNat + (63 - n.toNat) = 63 from by omega]; rfl
  rw [e]; exact Int.mul_emod_right _ _
theorem up_eq (v n : Int) (w : World) (x e : Int) (h : 0 ≤ v ∧ v < 18446744073709551616) (he : upS v n = (x, e)) :
    Calls Try.prog 10 #[.int .u64 v, .int .i64 n] w (Ret (.tuple #[.int .u64 x, .int .i64 e]) w) := by
  have := up_any v n w h.1 h.2
  rwa [he] at this

set_option maxHeartbeats 1600000 in
theorem PlaceUp_walk (a : Int) (ha : 0 ≤ a ∧ a < 18446744073709551616) (n : Int) (hn : -9223372036854775808 ≤ n ∧ n ≤ 9223372036854775807) (m : Int) (hm : -9223372036854775808 ≤ m ∧ m ≤ 9223372036854775807) (w : World) :
    Calls Try.prog 7 #[.int .u64 a, .int .i64 n, .int .i64 m] w (RetB (.bool true) w) := by
  by_cases h : n < 0 ∨ 12 < n
  · have H := Lib.hid (upS0 (a := a) h)
    rcases h with h | h
    all_goals
      go_enter Try.func7, Try.ntmps7
      go_wp2_with (first | (go_at_call 10; ((with_reducible refine (up_eq a n _ 0 1 ha H.out).mono ?_); rintro e w' ⟨rfl, rfl⟩)) | (go_at_call 14; refine (laid_any _).mono ?_; rintro e w' ⟨rfl, hb⟩))
      go_ret
      exact retB_bool rfl hb
  by_cases h2 : 9223372036854775808 < a
  · have H := Lib.hid (upS1 (a := a) (n := n) (by omega) (by omega) h2)
    go_enter Try.func7, Try.ntmps7
    go_wp2_with (first | (go_at_call 10; ((with_reducible refine (up_eq a n _ 0 4 ha H.out).mono ?_); rintro e w' ⟨rfl, rfl⟩)) | (go_at_call 14; refine (laid_any _).mono ?_; rintro e w' ⟨rfl, hb⟩))
    go_ret
    exact retB_bool rfl hb
  obtain ⟨u, p, hp, p1, p2, hu, u1, u2, u3, u4⟩ := up_all a n ha.1 (by omega) (by omega) (by omega)
  have hub : 0 ≤ u ∧ u < 18446744073709551616 := by omega
  have HU := Lib.hid hu
  have hw : IntKind.u64.wrap (2 ^ n.toNat) = p := by rw [← hp, IntKind.wrap_u64]; omega
  have H3 := Lib.hid u3
  have hz : (u % p != 0) = false := by rw [u3]; rfl
  by_cases hm2 : m < 0 ∨ n < m
  · clear u3 hp hu
    rcases hm2 with hm2 | hm2
    all_goals
      go_enter Try.func7, Try.ntmps7
      go_wp2_with (first | (go_at_call 10; ((with_reducible refine (up_eq a n _ u 0 ha HU.out).mono ?_); rintro e w' ⟨rfl, rfl⟩)) | (go_at_call 14; refine (laid_any _).mono ?_; rintro e w' ⟨rfl, hb⟩))
      go_ret
      exact retB_bool rfl hb
  obtain ⟨v, q, hq, q1, q2, hv, v1, v2, v3, v4⟩ := up_all u m (by omega) (by omega) (by omega) (by omega)
  obtain ⟨c, q', hq', -, -, hc, c1, c2, c3, c4⟩ := up_all a m ha.1 (by omega) (by omega) (by omega)
  have hqp : u % q = 0 := by
    have e : p = q * 2 ^ (n.toNat - m.toNat) := by
      rw [hp, hq, ← Int.pow_add, show m.toNat + (n.toNat - m.toNat) = n.toNat from by omega]
    have h1 := Int.emod_add_mul_ediv u p
    rw [u3] at h1
    rw [← h1, e, Int.zero_add, Int.mul_assoc]; exact Int.mul_emod_right _ _
  rw [← hq] at hq'
  rw [hq'] at c2 c3
  have hvu : v = u := by
    apply Classical.byContradiction
    intro hne
    exact not_mult u v q (by omega) v3 (by omega) (by omega) hqp
  have hcu : c ≤ u := by
    apply Classical.byContradiction
    intro hne
    exact not_mult u c q (by omega) c3 (by omega) (by omega) hqp
  rw [hvu] at hv
  have HV := Lib.hid hv
  have HC := Lib.hid hc
  clear u3 hp hu hq hv hq' hc hqp hvu v1 v2 v3 v4 c2 c3
  go_enter Try.func7, Try.ntmps7
  go_wp2_with (first | (go_at_call 10; ((with_reducible refine (up_eq a n _ u 0 ha HU.out).mono ?_); rintro e w' ⟨rfl, rfl⟩)) | (go_at_call 10; ((with_reducible refine (up_eq u m _ u 0 hub HV.out).mono ?_); rintro e w' ⟨rfl, rfl⟩)) | (go_at_call 10; ((with_reducible refine (up_eq a m _ c 0 ha HC.out).mono ?_); rintro e w' ⟨rfl, rfl⟩)) | (go_at_call 14; refine (laid_any _).mono ?_; rintro e w' ⟨rfl, hb⟩))
  all_goals (go_ret; exact retB_bool rfl hb)

theorem far_eq (f t : Int) (w : World) (d : Int) (hf : 0 ≤ f ∧ f < 18446744073709551616) (ht : 0 ≤ t ∧ t < 18446744073709551616) (hd : wrap64 (t - f) = d) :
    Calls Try.prog 18 #[.int .u64 f, .int .u64 t] w (Ret (.int .i64 d) w) := by
  have := far_any f t w hf.1 hf.2 ht.1 ht.2
  rwa [hd] at this
theorem near_eq (f t r : Int) (w : World) (b : Bool) (hf : 0 ≤ f ∧ f < 18446744073709551616) (ht : 0 ≤ t ∧ t < 18446744073709551616) (hr : -9223372036854775808 ≤ r ∧ r ≤ 9223372036854775807) (hd : nearB f t r = b) :
    Calls Try.prog 20 #[.int .u64 f, .int .u64 t, .int .i64 r] w (Ret (.bool b) w) := by
  have := near_any f t r w hf.1 hf.2 ht.1 ht.2 hr.1 hr.2
  rwa [hd] at this

set_option maxHeartbeats 1600000 in
theorem PlaceBack_walk (f : Int) (hf : 0 ≤ f ∧ f < 18446744073709551616) (t : Int) (ht : 0 ≤ t ∧ t < 18446744073709551616) (r : Int) (hr : -9223372036854775808 ≤ r ∧ r ≤ 9223372036854775807) (w : World) :
    Calls Try.prog 8 #[.int .u64 f, .int .u64 t, .int .i64 r] w (RetB (.bool true) w) := by
  obtain ⟨d, hd⟩ : ∃ d, wrap64 (t - f) = d := ⟨_, rfl⟩
  obtain ⟨g, hg⟩ : ∃ g, wrap64 (f - t) = g := ⟨_, rfl⟩
  have hd1 : (IntKind.u64.wrap (f + IntKind.u64.wrap d) != t) = false := by rw [bne_eq_false_iff_eq, ← hd, IntKind.wrap_u64, IntKind.wrap_u64]; unfold wrap64; omega
  have hg1 : (IntKind.u64.wrap (t + IntKind.u64.wrap g) != f) = false := by rw [bne_eq_false_iff_eq, ← hg, IntKind.wrap_u64, IntKind.wrap_u64]; unfold wrap64; omega
  have HD := Lib.hid hd
  have HG := Lib.hid hg
  by_cases r0 : r < 0
  · have hn : nearB f t r = false := by unfold nearB; rw [decide_eq_false_iff_not]; omega
    have HN := Lib.hid hn
    clear hd hg hn
    go_enter Try.func8, Try.ntmps8
    go_wp2_with (first | (go_at_call 18; ((with_reducible refine (far_eq f t _ d hf ht HD.out).mono ?_); rintro e w' ⟨rfl, rfl⟩)) | (go_at_call 18; ((with_reducible refine (far_eq t f _ g ht hf HG.out).mono ?_); rintro e w' ⟨rfl, rfl⟩)) | (go_at_call 20; ((with_reducible refine (near_eq f t r _ false hf ht hr HN.out).mono ?_); rintro e w' ⟨rfl, rfl⟩)) | (go_at_call 14; refine (laid_any _).mono ?_; rintro e w' ⟨rfl, hb⟩))
    all_goals (go_ret; exact retB_bool rfl hb)
  by_cases r1 : r < 4 ∨ 1000000000 < r
  · clear hd hg
    rcases r1 with r1 | r1
    all_goals
      go_enter Try.func8, Try.ntmps8
      go_wp2_with (first | (go_at_call 18; ((with_reducible refine (far_eq f t _ d hf ht HD.out).mono ?_); rintro e w' ⟨rfl, rfl⟩)) | (go_at_call 18; ((with_reducible refine (far_eq t f _ g ht hf HG.out).mono ?_); rintro e w' ⟨rfl, rfl⟩)) | (go_at_call 14; refine (laid_any _).mono ?_; rintro e w' ⟨rfl, hb⟩))
      go_ret
      exact retB_bool rfl hb
  obtain ⟨b, hb⟩ : ∃ b, nearB f t r = b := ⟨_, rfl⟩
  have hb' := hb
  have HN := Lib.hid hb
  have hw1 := IntKind.wrap_u64 (t - f)
  have hw2 := IntKind.wrap_u64 (f - t)
  have hbb : b = decide (IntKind.u64.wrap (t - f) ≤ r - 4 ∨ IntKind.u64.wrap (f - t) ≤ r) := by
    rw [← hb]; unfold nearB wrap64; rw [decide_eq_decide, hw1, hw2]; omega
  clear hd hg hw1 hw2 hb HN
  have hb0 := Lib.hid hb'
  clear hb'
  by_cases c1 : IntKind.u64.wrap (t - f) ≤ r - 4
  · have HN := Lib.hid (hb0.out.trans (hbb.trans (decide_eq_true (.inl c1))))
    clear hbb
    go_enter Try.func8, Try.ntmps8
    go_wp2_with (first | (go_at_call 18; ((with_reducible refine (far_eq f t _ d hf ht HD.out).mono ?_); rintro e w' ⟨rfl, rfl⟩)) | (go_at_call 18; ((with_reducible refine (far_eq t f _ g ht hf HG.out).mono ?_); rintro e w' ⟨rfl, rfl⟩)) | (go_at_call 20; ((with_reducible refine (near_eq f t r _ true hf ht hr HN.out).mono ?_); rintro e w' ⟨rfl, rfl⟩)) | (go_at_call 14; refine (laid_any _).mono ?_; rintro e w' ⟨rfl, hb⟩))
    all_goals (go_ret; exact retB_bool rfl hb)
  by_cases c2 : IntKind.u64.wrap (f - t) ≤ r
  · have HN := Lib.hid (hb0.out.trans (hbb.trans (decide_eq_true (.inr c2))))
    clear hbb
    go_enter Try.func8, Try.ntmps8
    go_wp2_with (first | (go_at_call 18; ((with_reducible refine (far_eq f t _ d hf ht HD.out).mono ?_); rintro e w' ⟨rfl, rfl⟩)) | (go_at_call 18; ((with_reducible refine (far_eq t f _ g ht hf HG.out).mono ?_); rintro e w' ⟨rfl, rfl⟩)) | (go_at_call 20; ((with_reducible refine (near_eq f t r _ true hf ht hr HN.out).mono ?_); rintro e w' ⟨rfl, rfl⟩)) | (go_at_call 14; refine (laid_any _).mono ?_; rintro e w' ⟨rfl, hb⟩))
    all_goals (go_ret; exact retB_bool rfl hb)
  · have HN := Lib.hid (hb0.out.trans (hbb.trans (decide_eq_false (by omega))))
    clear hbb
    go_enter Try.func8, Try.ntmps8
    go_wp2_with (first | (go_at_call 18; ((with_reducible refine (far_eq f t _ d hf ht HD.out).mono ?_); rintro e w' ⟨rfl, rfl⟩)) | (go_at_call 18; ((with_reducible refine (far_eq t f _ g ht hf HG.out).mono ?_); rintro e w' ⟨rfl, rfl⟩)) | (go_at_call 20; ((with_reducible refine (near_eq f t r _ false hf ht hr HN.out).mono ?_); rintro e w' ⟨rfl, rfl⟩)) | (go_at_call 14; refine (laid_any _).mono ?_; rintro e w' ⟨rfl, hb⟩))
    all_goals (go_ret; exact retB_bool (by rw [decide_eq_false (by omega), decide_eq_false (by omega)]; rfl) hb)
end Go.Proofs.Ytpjidjanhonikaa
