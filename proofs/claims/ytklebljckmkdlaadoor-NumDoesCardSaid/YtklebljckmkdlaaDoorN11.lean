/- Digits written are read; no Go in sight. -/
import Derived.Test.YtklebljckmkdlaaDoorN8
namespace Go.Proofs.YtklebljckmkdlaaDoor
set_option linter.unusedVariables false
set_option linter.unusedSimpArgs false
open Go.RowKit

theorem dgB_nat (d : Nat) (h : d < 16) : (dgB d).toNat = if d < 10 then 48 + d else 87 + d := by
  unfold dgB
  rw [UInt8.toNat_ofNat']
  split <;> omega
theorem digB_dgB (d : Nat) (h : d < 16) : digB (dgB d) = d := by
  unfold digB
  rw [dgB_nat d h]
  by_cases c : d < 10
  · rw [if_pos c, if_pos (by omega)]; omega
  · rw [if_neg c, if_neg (by omega), if_pos (by omega)]; omega
theorem digL_ne (b u : Nat) : digL b u ≠ [] := by
  rw [digL]; split <;> simp
theorem digL_ok (b u : Nat) (hb : 2 ≤ b) (hb2 : b ≤ 16) : okL b (digL b u) = true := by
  induction u using Nat.strongRecOn with
  | _ u ih =>
    by_cases h : u < b
    · rw [digL_small h]
      simp [okL, digB_dgB u (by omega), h]
    · rw [digL_big (by omega) hb]
      have h1 := ih (u / b) (Nat.div_lt_self (by omega) (by omega))
      have h2 := Nat.mod_lt u (show 0 < b by omega)
      unfold okL at h1 ⊢
      rw [List.all_append, h1]
      simp [digB_dgB (u % b) (by omega), h2]
theorem vf_dig (b u : Nat) (r : List UInt8) (hb : 2 ≤ b) (hb2 : b ≤ 16) (hu : u < 18446744073709551616) : vf b (digL b u ++ r) 0 = vf b r u := by
  induction u using Nat.strongRecOn generalizing r with
  | _ u ih =>
    by_cases h : u < b
    · rw [digL_small h, List.singleton_append, vf_step (by rw [digB_dgB u (by omega)]; omega), digB_dgB u (by omega), Nat.zero_mul, Nat.zero_add]
    · have h2 := Nat.mod_lt u (show 0 < b by omega)
      have e : u / b * b + u % b = u := by rw [Nat.mul_comm]; exact Nat.div_add_mod u b
      rw [digL_big (by omega) hb, List.append_assoc, ih (u / b) (Nat.div_lt_self (by omega) (by omega)) _ (Nat.lt_of_le_of_lt (Nat.div_le_self _ _) hu), List.singleton_append,
        vf_step (by rw [digB_dgB (u % b) (by omega), e]; exact hu), digB_dgB (u % b) (by omega), e]
theorem digL_valD (b u : Nat) (hb : 2 ≤ b) (hb2 : b ≤ 16) (hu : u < 18446744073709551616) : valD b (digL b u) = ((u : Int), 0) := by
  refine valD_some ?_ ?_
  · rw [digL_ok b u hb hb2]; simp [digL_ne]
  · have := vf_dig b u [] hb hb2 hu
    rwa [List.append_nil] at this
/-- A row of decimal digits has no x. -/
theorem pre_none (l : List UInt8) (h : okL 10 l = true) : Lib.hasPrefix l [48, 120] = false := by
  unfold Lib.hasPrefix
  cases l with
  | nil => rfl
  | cons a l =>
    cases l with
    | nil => simp [List.isPrefixOf]
    | cons c l =>
      have hc : digB c < 10 := by have := okL_drop h 1 (by simp); simpa using this
      have : c ≠ 120 := by rintro rfl; revert hc; decide
      simp [List.isPrefixOf]
      intro _ h2
      exact this h2.symm
theorem valS_dec (l : List UInt8) (h : okL 10 l = true) : valS l = valD 10 l := by
  unfold valS; rw [if_neg (by rw [pre_none l h]; decide)]
theorem val_text (u : Nat) (hu : u < 18446744073709551616) : valS (textB u).data.toList = ((u : Int), 0) := by
  show valS (digL 10 u) = _
  rw [valS_dec _ (digL_ok 10 u (by decide) (by decide)), digL_valD 10 u (by decide) (by decide) hu]
theorem val_hex (u : Nat) (hu : u < 18446744073709551616) : valS (hexB u).data.toList = ((u : Int), 0) := by
  show valS (48 :: 120 :: digL 16 u) = _
  unfold valS
  rw [if_pos (by rfl)]
  exact digL_valD 16 u (by decide) (by decide) hu
/-- The first digit is a nought of 0 alone. -/
theorem digL_head (b u : Nat) (hb : 2 ≤ b) (hb2 : b ≤ 16) : ∃ d r, digL b u = dgB d :: r ∧ d < 16 ∧ (d = 0 ↔ u = 0) := by
  induction u using Nat.strongRecOn with
  | _ u ih =>
    by_cases h : u < b
    · exact ⟨u, [], digL_small h, by omega, Iff.rfl⟩
    · obtain ⟨d, r, h1, h2, h3⟩ := ih (u / b) (Nat.div_lt_self (by omega) (by omega))
      have hd : 0 < u / b := Nat.div_pos (by omega) (by omega)
      exact ⟨d, r ++ [dgB (u % b)], by rw [digL_big (by omega) hb, h1]; rfl, h2, by omega⟩
theorem dgB_zero (d : Nat) (h : d < 16) : ((dgB d).toNat = 48) ↔ d = 0 := by rw [dgB_nat d h]; split <;> omega

/-- Noughts ahead; a digit behind. -/
theorem vf_noughts (b k : Nat) (l : List UInt8) : vf b (List.replicate k 48 ++ l) 0 = vf b l 0 := by
  induction k with
  | zero => rfl
  | succ k ih =>
    have z : 0 * b + digB 48 = 0 := by rw [Nat.zero_mul]; decide
    rw [List.replicate_succ, List.cons_append, vf_step (by rw [z]; decide), z, ih]
theorem vf_more (b : Nat) (l r : List UInt8) (v : Nat) : vf b (l ++ r) v = (vf b l v).bind fun x => vf b r x := by
  induction l generalizing v with
  | nil => rfl
  | cons c l ih =>
    rw [List.cons_append]
    by_cases h : v * b + digB c < 18446744073709551616
    · rw [vf_step h, vf_step h, ih]
    · rw [vf_stop h, vf_stop h]; rfl
theorem vf_lt (b : Nat) (l : List UInt8) (v x : Nat) (hv : v < 18446744073709551616) (h : vf b l v = some x) : x < 18446744073709551616 := by
  induction l generalizing v with
  | nil => cases h; exact hv
  | cons c l ih =>
    by_cases hc : v * b + digB c < 18446744073709551616
    · rw [vf_step hc] at h; exact ih _ hc h
    · rw [vf_stop hc] at h; cases h
theorem okL_app (b : Nat) (l r : List UInt8) : okL b (l ++ r) = (okL b l && okL b r) := by unfold okL; rw [List.all_append]
theorem okL_noughts (b k : Nat) (hb : 0 < b) : okL b (List.replicate k 48) = true := by
  unfold okL; rw [List.all_eq_true]; intro c hc
  obtain ⟨_, rfl⟩ := List.mem_replicate.1 hc
  simpa [digB] using hb
end Go.Proofs.YtklebljckmkdlaaDoor
