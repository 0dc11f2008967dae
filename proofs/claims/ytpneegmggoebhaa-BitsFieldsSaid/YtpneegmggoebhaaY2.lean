/- BitsSign returns true, for every input. -/
import Derived.Test.YtpneegmggoebhaaT1
namespace Go.Proofs.Ytpneegmggoebhaa
open Go.RowKit
set_option linter.unusedVariables false

theorem sgn_back {v n a : Int} (h0 : 0 ≤ v) (h : sgn v n = (a, 0)) : pck a n = (v, 0) ∧ -9223372036854775808 ≤ a ∧ a ≤ 9223372036854775807 := by
  by_cases c : 1 ≤ n ∧ n ≤ 32
  · obtain ⟨c1, c2⟩ := c
    have hp := pow32 n c2
    have hq := pow_pred n c1
    by_cases d : 2 ^ n.toNat ≤ v
    · rw [sgn1 c1 c2 d] at h; simp at h
    · by_cases f : 2 ^ (n.toNat - 1) ≤ v
      · rw [sgn2 c1 c2 (by omega) f] at h
        simp only [Prod.mk.injEq, and_true] at h
        subst h
        refine ⟨?_, by omega, by omega⟩
        rw [pck2 c1 c2 (by omega) (by omega), Int.sub_emod_right, Int.emod_eq_of_lt h0 (by omega)]
      · rw [sgn3 c1 c2 (by omega) (by omega)] at h
        simp only [Prod.mk.injEq, and_true] at h
        subst h
        refine ⟨?_, by omega, by omega⟩
        rw [pck2 c1 c2 (by omega) (by omega), Int.emod_eq_of_lt h0 (by omega)]
  · rw [sgn0 c] at h; simp at h
theorem pck_cases (s n : Int) : (pck s n = (0, 1)) ∨ pck s n = (0, 4) ∨ ∃ c, pck s n = (c, 0) ∧ 1 ≤ n ∧ n ≤ 32 ∧ - 2 ^ (n.toNat - 1) ≤ s ∧ s < 2 ^ (n.toNat - 1) ∧ c = s % 2 ^ n.toNat := by
  by_cases c : 1 ≤ n ∧ n ≤ 32
  · obtain ⟨c1, c2⟩ := c
    by_cases d : s < - 2 ^ (n.toNat - 1) ∨ 2 ^ (n.toNat - 1) ≤ s
    · exact .inr (.inl (pck1 c1 c2 d))
    · exact .inr (.inr ⟨_, pck2 c1 c2 (by omega) (by omega), c1, c2, by omega, by omega, rfl⟩)
  · exact .inl (pck0 c)
theorem pck_back {s n c : Int} (h : pck s n = (c, 0)) : sgn c n = (s, 0) ∧ 0 ≤ c ∧ c < 4294967296 := by
  rcases pck_cases s n with e | e | ⟨c', e, c1, c2, d1, d2, rfl⟩
  · rw [e] at h; simp at h
  · rw [e] at h; simp at h
  rw [e] at h
  simp only [Prod.mk.injEq, and_true] at h
  have hp := pow32 n c2
  have hq := pow_pred n c1
  have hb := Int.emod_nonneg s (show (2:Int) ^ n.toNat ≠ 0 by omega)
  have hb' := Int.emod_lt_of_pos s (show (0:Int) < 2 ^ n.toNat by omega)
  subst h
  refine ⟨?_, hb, by omega⟩
  by_cases f : 0 ≤ s
  · have e := Int.emod_eq_of_lt f (show s < 2 ^ n.toNat by omega)
    rw [e, sgn3 c1 c2 (by omega) (by omega)]
  · have e := mod_neg_pow s (2 ^ (n.toNat - 1)) (by omega) (by omega)
    rw [hq, e, ← hq, sgn2 c1 c2 (by omega) (by omega)]
    simp
theorem pck_more {s n m c : Int} (h : pck s n = (c, 0)) (h1 : n ≤ m) (h2 : m ≤ 32) : pck s m = (s % 2 ^ m.toNat, 0) ∧ low (s % 2 ^ m.toNat) n = c := by
  rcases pck_cases s n with e | e | ⟨c', e, c1, c2, d1, d2, rfl⟩
  · rw [e] at h; simp at h
  · rw [e] at h; simp at h
  rw [e] at h
  simp only [Prod.mk.injEq, and_true] at h
  have hq := pow_mono' (show n.toNat - 1 ≤ m.toNat - 1 by omega)
  refine ⟨pck2 (by omega) h2 (by omega) (by omega), ?_⟩
  unfold low
  rw [if_neg (by omega), if_neg (by omega), ← h]
  apply Int.emod_emod_of_dvd
  obtain ⟨k, hk⟩ := Nat.le.dest (show n.toNat ≤ m.toNat by omega)
  rw [← hk, Int.pow_add]; exact Int.dvd_mul_right _ _
theorem signed_eq (v n : Int) (w : World) (a e : Int) (h : 0 ≤ v ∧ v < 4294967296) (he : sgn v n = (a, e)) :
    Calls Try.prog 16 #[.int .u32 v, .int .i64 n] w (Ret (.tuple #[.int .i64 a, .int .i64 e]) w) := by
  have := signed_any v n w h.1 h.2
  rwa [he] at this
theorem pack_eq (v n : Int) (w : World) (a e : Int) (h : -9223372036854775808 ≤ v ∧ v ≤ 9223372036854775807) (he : pck v n = (a, e)) :
    Calls Try.prog 18 #[.int .i64 v, .int .i64 n] w (Ret (.tuple #[.int .u32 a, .int .i64 e]) w) := by
  have := pack_any v n w h.1 h.2
  rwa [he] at this
theorem low_eq (v n : Int) (w : World) (a : Int) (h : 0 ≤ v ∧ v < 18446744073709551616) (he : low v n = a) :
    Calls Try.prog 22 #[.int .u64 v, .int .i64 n] w (Ret (.int .u64 a) w) := by
  have := low_any v n w h.1 h.2
  rwa [he] at this
theorem sgn_cases (v n : Int) : (sgn v n = (0, 1)) ∨ sgn v n = (0, 4) ∨ ∃ a, sgn v n = (a, 0) := by
  by_cases c : 1 ≤ n ∧ n ≤ 32
  · obtain ⟨c1, c2⟩ := c
    by_cases d : 2 ^ n.toNat ≤ v
    · exact .inr (.inl (sgn1 c1 c2 d))
    · by_cases f : 2 ^ (n.toNat - 1) ≤ v
      · exact .inr (.inr ⟨_, sgn2 c1 c2 (by omega) f⟩)
      · exact .inr (.inr ⟨_, sgn3 c1 c2 (by omega) (by omega)⟩)
  · exact .inl (sgn0 c)

set_option maxHeartbeats 1600000 in
theorem BitsSign_walk (v : Int) (hv : 0 ≤ v ∧ v < 4294967296) (s : Int) (hs : -9223372036854775808 ≤ s ∧ s ≤ 9223372036854775807) (n : Int) (hn : -9223372036854775808 ≤ n ∧ n ≤ 9223372036854775807) (m : Int) (hm : -9223372036854775808 ≤ m ∧ m ≤ 9223372036854775807) (w : World) :
    Calls Try.prog 7 #[.int .u32 v, .int .i64 s, .int .i64 n, .int .i64 m] w (RetB (.bool true) w) := by
  obtain ⟨a, e, he, hx⟩ : ∃ a e, sgn v n = (a, e) ∧ ((e == 0) = false ∨ (e = 0 ∧ pck a n = (v, 0) ∧ -9223372036854775808 ≤ a ∧ a ≤ 9223372036854775807)) := by
    rcases sgn_cases v n with h | h | ⟨a, h⟩
    · exact ⟨_, _, h, .inl rfl⟩
    · exact ⟨_, _, h, .inl rfl⟩
    · exact ⟨_, _, h, .inr ⟨rfl, sgn_back hv.1 h⟩⟩
  obtain ⟨c, g, hg, hy⟩ : ∃ c g, pck s n = (c, g) ∧ ((c = 0 ∧ (g != 0) = true) ∨ (g = 0 ∧ sgn c n = (s, 0) ∧ 0 ≤ c ∧ c < 4294967296)) := by
    rcases pck_cases s n with h | h | ⟨c, h, _⟩
    · exact ⟨_, _, h, .inl ⟨rfl, rfl⟩⟩
    · exact ⟨_, _, h, .inl ⟨rfl, rfl⟩⟩
    · exact ⟨_, _, h, .inr ⟨rfl, pck_back h⟩⟩
  have HE := Lib.hid he
  have HG := Lib.hid hg
  clear he hg
  rcases hx with hx | ⟨rfl, hx, ha⟩ <;> rcases hy with ⟨rfl, hy⟩ | ⟨rfl, hy, hc⟩
  · go_enter Try.func7, Try.ntmps7
    go_wp2_with (first | (go_at_call 16; ((with_reducible refine (signed_eq v n _ a e hv HE.out).mono ?_); rintro e w' ⟨rfl, rfl⟩)) | (go_at_call 18; ((with_reducible refine (pack_eq s n _ 0 g hs HG.out).mono ?_); rintro e w' ⟨rfl, rfl⟩)) | (go_at_call 14; refine (told_any _).mono ?_; rintro e w' ⟨rfl, hb⟩))
    all_goals (go_ret; exact retB_bool rfl hb)
  · have HY := Lib.hid hy
    clear hy
    by_cases hm1 : m < n ∨ 32 < m
    · go_enter Try.func7, Try.ntmps7
      go_wp2_with (first | (go_at_call 16; ((with_reducible refine (signed_eq v n _ a e hv HE.out).mono ?_); rintro e w' ⟨rfl, rfl⟩)) | (go_at_call 18; ((with_reducible refine (pack_eq s n _ c 0 hs HG.out).mono ?_); rintro e w' ⟨rfl, rfl⟩)) | (go_at_call 16; ((with_reducible refine (signed_eq c n _ s 0 hc HY.out).mono ?_); rintro e w' ⟨rfl, rfl⟩)) | (go_at_call 14; refine (told_any _).mono ?_; rintro e w' ⟨rfl, hb⟩))
      all_goals (go_ret; exact retB_bool rfl hb)
    · obtain ⟨x, hxe, hm2⟩ : ∃ x, x = s % 2 ^ m.toNat ∧ pck s m = (x, 0) ∧ low x n = c := ⟨_, rfl, pck_more HG.out (by omega) (by omega)⟩
      have hs3 := pck_back hm2.1
      have hxb := hs3.2
      have hxc : 0 ≤ x ∧ x < 18446744073709551616 := by omega
      have HS := Lib.hid hs3.1
      have HM := Lib.hid hm2.1
      have HLO := Lib.hid hm2.2
      clear hs3 hm2 hxe
      go_enter Try.func7, Try.ntmps7
      go_wp2_with (first | (go_at_call 16; ((with_reducible refine (signed_eq v n _ a e hv HE.out).mono ?_); rintro e w' ⟨rfl, rfl⟩)) | (go_at_call 18; ((with_reducible refine (pack_eq s n _ c 0 hs HG.out).mono ?_); rintro e w' ⟨rfl, rfl⟩)) | (go_at_call 16; ((with_reducible refine (signed_eq c n _ s 0 hc HY.out).mono ?_); rintro e w' ⟨rfl, rfl⟩)) | (go_at_call 18; ((with_reducible refine (pack_eq s m _ x 0 hs HM.out).mono ?_); rintro e w' ⟨rfl, rfl⟩)) | (go_at_call 16; ((with_reducible refine (signed_eq x m _ s 0 hxb HS.out).mono ?_); rintro e w' ⟨rfl, rfl⟩)) | (go_at_call 22; ((with_reducible refine (low_eq x n _ c hxc HLO.out).mono ?_); rintro e w' ⟨rfl, rfl⟩)) | (go_at_call 14; refine (told_any _).mono ?_; rintro e w' ⟨rfl, hb⟩))
      all_goals (go_ret; exact retB_bool rfl hb)
  · have HX := Lib.hid hx
    clear hx
    go_enter Try.func7, Try.ntmps7
    go_wp2_with (first | (go_at_call 16; ((with_reducible refine (signed_eq v n _ a 0 hv HE.out).mono ?_); rintro e w' ⟨rfl, rfl⟩)) | (go_at_call 18; ((with_reducible refine (pack_eq a n _ v 0 ha HX.out).mono ?_); rintro e w' ⟨rfl, rfl⟩)) | (go_at_call 18; ((with_reducible refine (pack_eq s n _ 0 g hs HG.out).mono ?_); rintro e w' ⟨rfl, rfl⟩)) | (go_at_call 14; refine (told_any _).mono ?_; rintro e w' ⟨rfl, hb⟩))
    all_goals (go_ret; exact retB_bool rfl hb)
  · have HX := Lib.hid hx
    clear hx
    have HY := Lib.hid hy
    clear hy
    by_cases hm1 : m < n ∨ 32 < m
    · go_enter Try.func7, Try.ntmps7
      go_wp2_with (first | (go_at_call 16; ((with_reducible refine (signed_eq v n _ a 0 hv HE.out).mono ?_); rintro e w' ⟨rfl, rfl⟩)) | (go_at_call 18; ((with_reducible refine (pack_eq a n _ v 0 ha HX.out).mono ?_); rintro e w' ⟨rfl, rfl⟩)) | (go_at_call 18; ((with_reducible refine (pack_eq s n _ c 0 hs HG.out).mono ?_); rintro e w' ⟨rfl, rfl⟩)) | (go_at_call 16; ((with_reducible refine (signed_eq c n _ s 0 hc HY.out).mono ?_); rintro e w' ⟨rfl, rfl⟩)) | (go_at_call 14; refine (told_any _).mono ?_; rintro e w' ⟨rfl, hb⟩))
      all_goals (go_ret; exact retB_bool rfl hb)
    · obtain ⟨x, hxe, hm2⟩ : ∃ x, x = s % 2 ^ m.toNat ∧ pck s m = (x, 0) ∧ low x n = c := ⟨_, rfl, pck_more HG.out (by omega) (by omega)⟩
      have hs3 := pck_back hm2.1
      have hxb := hs3.2
      have hxc : 0 ≤ x ∧ x < 18446744073709551616 := by omega
      have HS := Lib.hid hs3.1
      have HM := Lib.hid hm2.1
      have HLO := Lib.hid hm2.2
      clear hs3 hm2 hxe
      go_enter Try.func7, Try.ntmps7
      go_wp2_with (first | (go_at_call 16; ((with_reducible refine (signed_eq v n _ a 0 hv HE.out).mono ?_); rintro e w' ⟨rfl, rfl⟩)) | (go_at_call 18; ((with_reducible refine (pack_eq a n _ v 0 ha HX.out).mono ?_); rintro e w' ⟨rfl, rfl⟩)) | (go_at_call 18; ((with_reducible refine (pack_eq s n _ c 0 hs HG.out).mono ?_); rintro e w' ⟨rfl, rfl⟩)) | (go_at_call 16; ((with_reducible refine (signed_eq c n _ s 0 hc HY.out).mono ?_); rintro e w' ⟨rfl, rfl⟩)) | (go_at_call 18; ((with_reducible refine (pack_eq s m _ x 0 hs HM.out).mono ?_); rintro e w' ⟨rfl, rfl⟩)) | (go_at_call 16; ((with_reducible refine (signed_eq x m _ s 0 hxb HS.out).mono ?_); rintro e w' ⟨rfl, rfl⟩)) | (go_at_call 22; ((with_reducible refine (low_eq x n _ c hxc HLO.out).mono ?_); rintro e w' ⟨rfl, rfl⟩)) | (go_at_call 14; refine (told_any _).mono ?_; rintro e w' ⟨rfl, hb⟩))
      all_goals (go_ret; exact retB_bool rfl hb)

end Go.Proofs.Ytpneegmggoebhaa
