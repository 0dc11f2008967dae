/- BitsRound returns true, for every input. -/
import Derived.Test.YtpneegmggoebhaaY2
namespace Go.Proofs.Ytpneegmggoebhaa
open Go.RowKit
set_option linter.unusedVariables false

theorem rotate_eq (v b s : Int) (w : World) (x e : Int) (h : 0 ≤ v ∧ v < 18446744073709551616) (he : rotS v b s = (x, e)) :
    Calls Try.prog 20 #[.int .u64 v, .int .i64 b, .int .i64 s] w (Ret (.tuple #[.int .u64 x, .int .i64 e]) w) := by
  have := rotate_any v b s w h.1 h.2
  rwa [he] at this
theorem rotS_cases (v b s : Int) (h0 : 0 ≤ v) : rotS v b s = (0, 1) ∨ rotS v b s = (0, 4) ∨ ∃ v' b' s' : Nat, v = v' ∧ b = b' ∧ s = s' ∧ isSz s = true ∧ b' < s' ∧ v' < 2 ^ s' := by
  by_cases c : isSz s = true ∧ 0 ≤ b ∧ b < s
  · by_cases d : 2 ^ s.toNat ≤ v
    · exact .inr (.inl (rotS1 c.1 c.2.1 c.2.2 d))
    · have hl := isSz_le c.1
      obtain ⟨v, rfl⟩ := Int.eq_ofNat_of_zero_le h0
      obtain ⟨b, rfl⟩ := Int.eq_ofNat_of_zero_le (show 0 ≤ b by omega)
      obtain ⟨s, rfl⟩ := Int.eq_ofNat_of_zero_le (show 0 ≤ s by omega)
      exact .inr (.inr ⟨v, b, s, rfl, rfl, rfl, c.1, by omega, by rw [Int.toNat_natCast, ← pow_cast] at d; omega⟩)
  · exact .inl (rotS0 c)
theorem rotS_ok {v b s : Nat} (h : isSz s = true) (hb : b < s) (hv : v < 2 ^ s) : rotS v b s = (((rotN v b s s : Nat) : Int), 0) :=
  rotS2 h hb (by rw [← pow_cast]; omega)
theorem mod_sub (b s : Nat) (hb : b < s) : (s - b) % s < s ∧ (b + (s - b) % s) % s = 0 := by
  refine ⟨Nat.mod_lt _ (by omega), ?_⟩
  rw [Nat.add_mod_mod, show b + (s - b) = s from by omega, Nat.mod_self]

set_option maxHeartbeats 1600000 in
theorem BitsRound_walk (v : Int) (hv : 0 ≤ v ∧ v < 18446744073709551616) (b : Int) (hb : -9223372036854775808 ≤ b ∧ b ≤ 9223372036854775807) (k : Int) (hk : -9223372036854775808 ≤ k ∧ k ≤ 9223372036854775807) (s : Int) (hs : -9223372036854775808 ≤ s ∧ s ≤ 9223372036854775807) (w : World) :
    Calls Try.prog 8 #[.int .u64 v, .int .i64 b, .int .i64 k, .int .i64 s] w (RetB (.bool true) w) := by
  rcases rotS_cases v b s hv.1 with h | h | ⟨v, b, s, rfl, rfl, rfl, hz, hbs, hvs⟩
  · have H := Lib.hid h
    clear h
    go_enter Try.func8, Try.ntmps8
    go_wp2_with (first | (go_at_call 20; ((with_reducible refine (rotate_eq v b s _ 0 1 hv H.out).mono ?_); rintro e w' ⟨rfl, rfl⟩)) | (go_at_call 14; refine (told_any _).mono ?_; rintro e w' ⟨rfl, hb⟩))
    go_ret
    exact retB_bool rfl hb
  · have H := Lib.hid h
    clear h
    go_enter Try.func8, Try.ntmps8
    go_wp2_with (first | (go_at_call 20; ((with_reducible refine (rotate_eq v b s _ 0 4 hv H.out).mono ?_); rintro e w' ⟨rfl, rfl⟩)) | (go_at_call 14; refine (told_any _).mono ?_; rintro e w' ⟨rfl, hb⟩))
    go_ret
    exact retB_bool rfl hb
  · have hl := isSz_le hz
    have hp : 2 ^ s ≤ 2 ^ 64 := Nat.pow_le_pow_right (by decide) (by omega)
    have ha : rotN v b s s < 2 ^ s := rotN_lt v b s s
    obtain ⟨a, hae⟩ : ∃ a, a = rotN v b s s := ⟨_, rfl⟩
    have H1 := rotS_ok hz hbs hvs
    rw [← hae] at H1 ha
    have hav : (0 : Int) ≤ a ∧ (a : Int) < 18446744073709551616 := by omega
    obtain ⟨m, hm, hms⟩ : ∃ m : Nat, ((s : Int) - b) % s = m ∧ m = (s - b) % s := ⟨(s - b) % s, by rw [Int.natCast_emod, Int.ofNat_sub (by omega)], rfl⟩
    have hmb := mod_sub b s hbs
    rw [← hms] at hmb
    have H2 : rotS a m s = ((v : Int), 0) := by
      rw [rotS_ok hz hmb.1 ha, hae, rot_back v b m s hbs hmb.1, hmb.2, rot_zero v s hvs]
    have H3 : low a s = a := by
      have := low_ne a s hav.1 hav.2 hz
      rw [decide_eq_false (by rw [Int.toNat_natCast, ← pow_cast]; omega)] at this
      simpa using this
    have hml := hmb.1
    have H1 := Lib.hid H1
    have H2 := Lib.hid H2
    have H3 := Lib.hid H3
    have HA := Lib.hid hae
    clear hae hms hmb
    by_cases hk1 : k < 0 ∨ (s : Int) ≤ k
    · clear hp ha hvs
      go_enter Try.func8, Try.ntmps8
      go_wp2_with (first | (go_at_call 20; ((with_reducible refine (rotate_eq v b s _ a 0 hv H1.out).mono ?_); rintro e w' ⟨rfl, rfl⟩)) | (go_at_call 20; ((with_reducible refine (rotate_eq a m s _ v 0 hav H2.out).mono ?_); rintro e w' ⟨rfl, rfl⟩)) | (go_at_call 22; ((with_reducible refine (low_eq a s _ a hav H3.out).mono ?_); rintro e w' ⟨rfl, rfl⟩)) | (go_at_call 14; refine (told_any _).mono ?_; rintro e w' ⟨rfl, hb⟩))
      all_goals (go_ret; exact retB_bool rfl hb)
    · obtain ⟨k, rfl⟩ := Int.eq_ofNat_of_zero_le (show 0 ≤ k by omega)
      have hks : k < s := by omega
      obtain ⟨n, hn, hns⟩ : ∃ n : Nat, ((b : Int) + k) % s = n ∧ n = (b + k) % s := ⟨(b + k) % s, by rw [Int.natCast_emod]; rfl, rfl⟩
      have hnl : n < s := by rw [hns]; exact Nat.mod_lt _ (by omega)
      obtain ⟨c, hce⟩ : ∃ c, c = rotN v n s s := ⟨_, rfl⟩
      have H4 : rotS v n s = ((c : Int), 0) := by rw [rotS_ok hz hnl hvs, hce]
      have H5 : rotS a k s = ((c : Int), 0) := by
        rw [rotS_ok hz hks ha, HA.out, rot_back v b k s hbs hks, hce, hns]
      have H4 := Lib.hid H4
      have H5 := Lib.hid H5
      clear hp ha hvs hns hce
      go_enter Try.func8, Try.ntmps8
      go_wp2_with (first | (go_at_call 20; ((with_reducible refine (rotate_eq v b s _ a 0 hv H1.out).mono ?_); rintro e w' ⟨rfl, rfl⟩)) | (go_at_call 20; ((with_reducible refine (rotate_eq a m s _ v 0 hav H2.out).mono ?_); rintro e w' ⟨rfl, rfl⟩)) | (go_at_call 20; ((with_reducible refine (rotate_eq a k s _ c 0 hav H5.out).mono ?_); rintro e w' ⟨rfl, rfl⟩)) | (go_at_call 20; ((with_reducible refine (rotate_eq v n s _ c 0 hv H4.out).mono ?_); rintro e w' ⟨rfl, rfl⟩)) | (go_at_call 22; ((with_reducible refine (low_eq a s _ a hav H3.out).mono ?_); rintro e w' ⟨rfl, rfl⟩)) | (go_at_call 14; refine (told_any _).mono ?_; rintro e w' ⟨rfl, hb⟩))
      all_goals (go_ret; exact retB_bool rfl hb)
end Go.Proofs.Ytpneegmggoebhaa
