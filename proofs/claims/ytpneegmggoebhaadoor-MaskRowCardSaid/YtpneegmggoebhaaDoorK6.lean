/- Masks turned round and rotated; their sizes. No Go in sight. -/
import Derived.Test.YtpneegmggoebhaaDoorK4
namespace Go.Proofs.YtpneegmggoebhaaDoor
set_option linter.unusedVariables false
set_option linter.unusedSimpArgs false
open Go.RowKit

abbrev U64 : Nat := 18446744073709551616
theorem sz_dvd {t : Nat} (h : isSz t = true) : t ∣ 64 := by rcases isSz_nat h with rfl | rfl | rfl | rfl | rfl | rfl <;> decide
theorem pz_iff {v t : Nat} (hv : v < 18446744073709551616) (h : isSz t = true) : pz v t = true ↔ perB v t := by
  have := isSz_le h
  unfold pz
  rw [beq_iff_eq]
  exact agN_per v t hv (by omega) (by omega)
theorem sizeL_congr {v u : Nat} (hv : v < 18446744073709551616) (hu : u < 18446744073709551616) (h : ∀ t : Nat, isSz t = true → (perB v t ↔ perB u t)) : sizeL v = sizeL u := by
  have a := sizeL_least v hv
  have b := sizeL_least u hu
  refine a.uniq ⟨b.size, (pz_iff hv b.size).2 ((h _ b.size).2 ((pz_iff hu b.size).1 b.has)), fun t ht hl => ?_⟩
  have := b.least t ht hl
  rw [Bool.eq_false_iff] at this ⊢
  exact fun e => this ((pz_iff hu ht).2 ((h t ht).1 ((pz_iff hv ht).1 e)))
theorem isS_congr {v u : Nat} (hv : v < 18446744073709551616) (hu : u < 18446744073709551616) (h : ∀ k r s, IsPat v k r s → ∃ k' r', IsPat u k' r' s) (g : ∀ k r s, IsPat u k r s → ∃ k' r', IsPat v k' r' s) : isS v = isS u := by
  rcases pat_or v hv with ⟨k, r, s, p⟩ | n
  · obtain ⟨k', r', q⟩ := h k r s p
    rw [p.isS, q.isS]
  · rw [isS_none hv n, isS_none hu fun k r s p => by obtain ⟨k', r', q⟩ := g k r s p; exact n _ _ _ q]

/-- All bits turned round. -/
abbrev com (v : Nat) : Nat := 18446744073709551615 - v
theorem com_lt (v : Nat) : com v < 18446744073709551616 := by unfold com; omega
theorem com_com {v : Nat} (hv : v < 18446744073709551616) : com (com v) = v := by unfold com; omega
theorem per_com {v t : Nat} (hv : v < 18446744073709551616) (ht : isSz t = true) (h : perB v t) : perB (com v) t := by
  intro j hj
  have := isSz_le ht
  have hm := Nat.mod_lt j (show 0 < t by omega)
  rw [compl_bit v j hv hj, compl_bit v (j % t) hv (by omega), h j hj]
theorem per_com_iff {v t : Nat} (hv : v < 18446744073709551616) (ht : isSz t = true) : perB v t ↔ perB (com v) t :=
  ⟨per_com hv ht, fun h => by have := per_com (com_lt v) ht h; rwa [com_com hv] at this⟩
theorem pat_com {v k r s : Nat} (h : IsPat v k r s) : IsPat (com v) (s - k) ((r + s - k) % s) s := by
  have hk := h.less
  have h1 := h.one
  have hp := h.pos
  have hr := h.turn
  refine ⟨h.size, by omega, by omega, Nat.mod_lt _ (by omega), com_lt v, fun j hj => ?_⟩
  rw [compl_bit v j h.lt hj, h.bit j hj, Nat.add_mod_mod, show j + (r + s - k) = (j + r) + (s - k) by omega, ← Nat.mod_add_mod (j + r) s (s - k)]
  have hx := Nat.mod_lt (j + r) (show 0 < s by omega)
  generalize (j + r) % s = x at *
  rw [modS (x + (s - k)) s (by omega)]
  by_cases c : x < k
  · rw [if_pos (by omega)]; (simp [c]) <;> omega
  · rw [if_neg (by omega)]; (simp [c]) <;> omega
theorem isS_com {v : Nat} (hv : v < 18446744073709551616) : isS (com v) = isS v :=
  isS_congr (com_lt v) hv (fun k r s p => by have := pat_com p; rw [com_com hv] at this; exact ⟨_, _, this⟩) (fun k r s p => ⟨_, _, pat_com p⟩)
theorem sizeL_com {v : Nat} (hv : v < 18446744073709551616) : sizeL (com v) = sizeL v :=
  sizeL_congr (com_lt v) hv fun t ht => (per_com_iff hv ht).symm
theorem pcN_com {v : Nat} (hv : v < 18446744073709551616) : pcN v 64 + pcN (com v) 64 = 64 :=
  pcN_not v (com v) 64 fun j hj => by rw [compl_bit v j hv hj]; simp

/-- Rotated among 64. -/
abbrev rot (v b : Nat) : Nat := rotN v b 64 64
theorem rot_lt (v b : Nat) : rot v b < 18446744073709551616 := rotN_lt v b 64 64
theorem rot_bit (v b j : Nat) (hj : j < 64) : (rot v b).testBit j = v.testBit ((j + b) % 64) := by
  unfold rot; rw [rotN_bit]; simp [hj]
theorem rot_rot (v b : Nat) (hv : v < 18446744073709551616) (hb : b < 64) : rot (rot v b) ((64 - b) % 64) = v := by
  refine bits_ext (rot_lt _ _) hv fun j hj => ?_
  rw [rot_bit _ _ _ hj, rot_bit _ _ _ (Nat.mod_lt _ (by decide))]
  congr 1
  omega
theorem mod_dvd (a t : Nat) (h : t ∣ 64) : a % 64 % t = a % t := Nat.mod_mod_of_dvd _ h
theorem per_rot {v b t : Nat} (ht : isSz t = true) (h : perB v t) : perB (rot v b) t := by
  intro j hj
  have := isSz_le ht
  have hd := sz_dvd ht
  have hm := Nat.mod_lt j (show 0 < t by omega)
  rw [rot_bit v b j hj, rot_bit v b (j % t) (by omega), h _ (Nat.mod_lt _ (by decide)), h ((j % t + b) % 64) (Nat.mod_lt _ (by decide)), mod_dvd _ _ hd, mod_dvd _ _ hd, Nat.mod_add_mod]
theorem per_rot_iff {v b t : Nat} (hv : v < 18446744073709551616) (hb : b < 64) (ht : isSz t = true) : perB (rot v b) t ↔ perB v t :=
  ⟨fun h => by have := per_rot (b := (64 - b) % 64) ht h; rwa [rot_rot v b hv hb] at this, per_rot ht⟩
theorem pat_rot {v k r s : Nat} (b : Nat) (h : IsPat v k r s) : IsPat (rot v b) k ((r + b) % s) s := by
  have hp := h.pos
  refine ⟨h.size, h.one, h.less, Nat.mod_lt _ (by omega), rot_lt v b, fun j hj => ?_⟩
  rw [rot_bit v b j hj, h.bit _ (Nat.mod_lt _ (by decide)), ← Nat.mod_add_mod, mod_dvd _ _ h.dvd, Nat.mod_add_mod, Nat.add_mod_mod, show j + b + r = j + (r + b) by omega]
theorem isS_rot {v b : Nat} (hv : v < 18446744073709551616) (hb : b < 64) : isS (rot v b) = isS v :=
  isS_congr (rot_lt v b) hv (fun k r s p => by have := pat_rot ((64 - b) % 64) p; rw [rot_rot v b hv hb] at this; exact ⟨_, _, this⟩) (fun k r s p => ⟨_, _, pat_rot b p⟩)
theorem sizeL_rot {v b : Nat} (hv : v < 18446744073709551616) (hb : b < 64) : sizeL (rot v b) = sizeL v :=
  sizeL_congr (rot_lt v b) hv fun t ht => per_rot_iff hv hb ht
theorem pcN_succ (v n : Nat) : pcN v (n + 1) = pcN v n + if v.testBit n then 1 else 0 := rfl
theorem pcN_rot {v b : Nat} (hb : b < 64) : pcN (rot v b) 64 = pcN v 64 := by
  have step : ∀ n, n ≤ 64 → pcN (rot v b) n + pcN v b = (if n + b ≤ 64 then pcN v (n + b) else pcN v 64 + pcN v (n + b - 64)) := by
    intro n
    induction n with
    | zero => intro _; rw [if_pos (by omega), Nat.zero_add]; simp [pcN]
    | succ n ih =>
      intro hn
      have := ih (by omega)
      rw [pcN, rot_bit v b n (by omega)]
      by_cases c : n + b < 64
      · rw [if_pos (by omega)] at this
        rw [if_pos (show n + 1 + b ≤ 64 by omega), show n + 1 + b = (n + b) + 1 by omega, pcN_succ v (n + b), Nat.mod_eq_of_lt c]; omega
      · by_cases c2 : n + b = 64
        · rw [if_pos (by omega), c2] at this
          rw [if_neg (show ¬ n + 1 + b ≤ 64 by omega), c2, show n + 1 + b - 64 = 0 + 1 by omega, pcN_succ v 0, show pcN v 0 = 0 from rfl, Nat.mod_self]; omega
        · rw [if_neg (by omega)] at this
          rw [if_neg (show ¬ n + 1 + b ≤ 64 by omega), show n + 1 + b - 64 = (n + b - 64) + 1 by omega, pcN_succ v (n + b - 64), show (n + b) % 64 = n + b - 64 by omega]; omega
  have := step 64 (Nat.le_refl _)
  by_cases c : b = 0
  · subst c; rw [if_pos (by omega), show pcN v 0 = 0 from rfl] at this; exact this
  · rw [if_neg (by omega), show 64 + b - 64 = b by omega] at this; omega

/-- A number that its rotation by t is repeats each t bits. -/
theorem rot_per {v t : Nat} (hv : v < 18446744073709551616) (ht : isSz t = true) (h64 : t < 64) : rot v t = v ↔ perB v t := by
  have hd := sz_dvd ht
  have h2 := isSz_le ht
  constructor
  · intro h j
    induction j using Nat.strongRecOn with
    | _ j ih =>
      intro hj
      by_cases c : j < t
      · rw [Nat.mod_eq_of_lt c]
      · have e := rot_bit v t (j - t) (by omega)
        rw [h, show (j - t + t) % 64 = j by omega] at e
        rw [← e, ih (j - t) (by omega) (by omega)]
        congr 1
        have : j = (j - t) + t := by omega
        rw [this, Nat.add_mod_right, Nat.add_sub_cancel]
  · intro h
    refine bits_ext (rot_lt v t) hv fun j hj => ?_
    rw [rot_bit v t j hj, h _ (Nat.mod_lt _ (by decide)), mod_dvd _ _ hd, Nat.add_mod_right, ← h j hj]
theorem rot_size {v : Nat} (hv : v < 18446744073709551616) : rot v (sizeL v % 64) = v := by
  have L := sizeL_least v hv
  have h2 := isSz_le L.size
  by_cases c : sizeL v = 64
  · rw [c]; exact rot_zero v 64 hv
  · rw [Nat.mod_eq_of_lt (by omega)]
    exact (rot_per hv L.size (by omega)).2 ((pz_iff hv L.size).1 L.has)
theorem rot_half {v : Nat} (hv : v < 18446744073709551616) (h2 : sizeL v ≠ 2) : rot v (sizeL v / 2) ≠ v := by
  have L := sizeL_least v hv
  have h6 := isSz_nat L.size
  have hh : isSz ((sizeL v / 2 : Nat) : Int) = true := by
    rcases h6 with e | e | e | e | e | e <;> rw [e] at h2 ⊢ <;> first | rfl | (exact absurd rfl h2)
  intro e
  have hp := (rot_per hv hh (by omega)).1 e
  have := L.least _ hh (by omega)
  rw [(pz_iff hv hh).2 hp] at this
  cases this

/-- Ones in a row. -/
theorem row_pat (k s : Nat) (hs : isSz s = true) (h1 : 1 ≤ k) (hk : k < s) : IsPat (agN (2 ^ k - 1) s 64) k 0 s := by
  have h2 := isSz_le hs
  have := mask_pat k 0 s hs h1 hk (by omega)
  unfold maskN at this
  rwa [rot_zero _ _ (by have := Nat.pow_lt_pow_right (show 1 < 2 by decide) hk; have := Nat.two_pow_pos k; omega)] at this
theorem agN_zero (s i : Nat) : agN 0 s i = 0 := by induction i with
  | zero => rfl
  | succ i ih => rw [agN, ih]; simp
theorem isS_zero : isS 0 = false := by decide +kernel
theorem isS_max : isS 18446744073709551615 = false := by decide +kernel
theorem agN_full (s : Nat) (hs : isSz s = true) : agN (2 ^ s - 1) s 64 = 18446744073709551615 := by
  rcases isSz_nat hs with rfl | rfl | rfl | rfl | rfl | rfl <;> decide +kernel
theorem row_is (k s : Nat) (hs : isSz s = true) (hk : k ≤ s) : isS (agN (2 ^ k - 1) s 64) = (decide (0 < (k : Int)) && decide ((k : Int) < s)) := by
  by_cases c0 : k = 0
  · subst c0; rw [show 2 ^ 0 - 1 = 0 from rfl, agN_zero, isS_zero]; rfl
  · by_cases c1 : k = s
    · subst c1; rw [agN_full k hs, isS_max]; simp
    · rw [(row_pat k s hs (by omega) (by omega)).isS]
      simp; omega
theorem ones_is (k : Nat) (hk : k ≤ 64) : isS (2 ^ k - 1) = (decide (0 < (k : Int)) && decide ((k : Int) < 64)) := by
  have := row_is k 64 rfl hk
  rwa [agN_self _ 64 (by have := Nat.pow_le_pow_right (show 0 < 2 by decide) hk; have := Nat.two_pow_pos k; omega)] at this
end Go.Proofs.YtpneegmggoebhaaDoor
