/- The reference's Decode. -/
import Derived.Test.YtdeigbdcipkaaaaGreatDoorB14
namespace Go.Proofs.YtdeigbdcipkaaaaGreatDoor
set_option linter.unusedVariables false
set_option linter.unusedSimpArgs false
open Go.RowKit

theorem decS_out {n r s : Int} (h : n < 0 ∨ n > 1 ∨ r < 0 ∨ r > 63 ∨ s < 0 ∨ s > 63) : decS n r s = (0, 1) := by unfold decS; rw [if_pos h]
theorem decS_none {n r s : Int} (h : ¬ (n < 0 ∨ n > 1 ∨ r < 0 ∨ r > 63 ∨ s < 0 ∨ s > 63)) (e : readS n r s = (0, 0, 0)) : decS n r s = (0, 3) := by unfold decS; rw [if_neg h, if_pos e]
theorem decS_some {n r s t : Int} (h : ¬ (n < 0 ∨ n > 1 ∨ r < 0 ∨ r > 63 ∨ s < 0 ∨ s > 63)) (ht : t ≠ 0) (e : readS n r s = (t, r, s - leadS t + 1)) :
    decS n r s = (((maskN (s - leadS t + 1).toNat r.toNat t.toNat : Nat) : Int), 0) := by
  unfold decS; rw [if_neg h, e, if_neg (by simp [ht])]
theorem outs {n r s : Int} (h : n < 0 ∨ n > 1 ∨ r < 0 ∨ r > 63 ∨ s < 0 ∨ s > 63) :
    n < 0 ∨ (0 ≤ n ∧ 1 < n) ∨ (0 ≤ n ∧ n ≤ 1 ∧ r < 0) ∨ (0 ≤ n ∧ n ≤ 1 ∧ 0 ≤ r ∧ 63 < r) ∨ (0 ≤ n ∧ n ≤ 1 ∧ 0 ≤ r ∧ r ≤ 63 ∧ s < 0) ∨ (0 ≤ n ∧ n ≤ 1 ∧ 0 ≤ r ∧ r ≤ 63 ∧ 0 ≤ s ∧ 63 < s) := by omega
theorem ok_iff (n r s t : Int) : okAt n r s t = true ↔ (n = upperS t ∧ r < t ∧ 1 ≤ s - leadS t + 1 ∧ s - leadS t + 1 < t) := by
  unfold okAt; simp [and_assoc]
theorem maskN_again (k r s : Nat) : agN (rotN (2 ^ k - 1) r s s) s 64 = maskN k r s := rfl

theorem rot64 (v b : Nat) : rotN v b 64 64 < 18446744073709551616 := rotN_lt v b 64 64

set_option maxHeartbeats 1000000 in
theorem refDecode_out (n r s : Int) (w : World) (h : n < 0 ∨ n > 1 ∨ r < 0 ∨ r > 63 ∨ s < 0 ∨ s > 63) :
    Calls Tryz.prog 63 #[.int .i64 n, .int .i64 r, .int .i64 s] w (Ret (two .u64 .i64 (decS n r s)) w) := by
  have H := Lib.hid (decS_out h)
  rcases outs h with h1 | ⟨h1, h2⟩ | ⟨h1, h2, h3⟩ | ⟨h1, h2, h3, h4⟩ | ⟨h1, h2, h3, h4, h5⟩ | ⟨h1, h2, h3, h4, h5, h6⟩
  all_goals
    clear h
    go_enter Tryz.func63, Tryz.ntmps63
    go_wp2
    go_ret2
    exact ret_two H.out
theorem dbl (m : Nat) (h : isSz m = true) (hl : m ≠ 64) : isSz ((2 * m : Nat) : Int) = true := by simp [isSz] at h ⊢; omega
theorem below2 {m : Nat} {P : Int → Prop} (hm : isSz m = true) (hp : ∀ u : Int, isSz u = true → u < m → P u) (hpm : P m) : ∀ u : Int, isSz u = true → u < ((2 * m : Nat) : Int) → P u := by
  intro u hu hl
  by_cases c : u < m
  · exact hp u hu c
  · have : u = m := by simp [isSz] at hu hm; omega
    rw [this]; exact hpm

def RD (n r s : Int) (i : Value) : Prop := ∃ m : Nat, (isSz m = true ∨ m = 128) ∧ i = .int .i64 m ∧ ∀ u : Int, isSz u = true → u < m → okAt n r s u = false
theorem rd_end {n r s : Int} (hlow : ∀ u : Int, isSz u = true → u < (64 : Nat) → okAt n r s u = false) (hk : okAt n r s 64 = false) : RD n r s (.int .i64 128) :=
  ⟨128, .inr rfl, rfl, fun u hu hl => by
    by_cases c : u < 64
    · exact hlow u hu c
    · have : u = 64 := by simp [isSz] at hu; omega
      rw [this]; exact hk⟩
theorem rd_next {n r s : Int} {m : Nat} (hm : isSz m = true) (h64 : ¬ m = 64) (hlow : ∀ u : Int, isSz u = true → u < m → okAt n r s u = false) (hk : okAt n r s m = false) : RD n r s (.int .i64 (2 * (m : Int))) :=
  ⟨2 * m, .inl (dbl m hm h64), by go_num, below2 (P := fun u => okAt n r s u = false) hm hlow hk⟩

set_option maxHeartbeats 1600000 in
theorem refDecode_any (n r s : Int) (w : World) :
    Calls Tryz.prog 63 #[.int .i64 n, .int .i64 r, .int .i64 s] w (Ret (two .u64 .i64 (decS n r s)) w) := by
  by_cases hout : n < 0 ∨ n > 1 ∨ r < 0 ∨ r > 63 ∨ s < 0 ∨ s > 63
  · exact refDecode_out n r s w hout
  have HO := Lib.hid hout
  have hr0 : 0 ≤ r := by omega
  have hr1 : r ≤ 63 := by omega
  have hs0 : 0 ≤ s := by omega
  have hs1 : s ≤ 63 := by omega
  have hn : n = 0 ∨ n = 1 := by omega
  have hn0 : 0 ≤ n := by omega
  have hn1 : n ≤ 1 := by omega
  clear hout
  have HN : Hid (∀ t : Int, isSz t = true → ∀ b : Bool, ((n == 1) == (t == 64)) = b → (n == upperS t) = b) := Lib.hid fun t _ b hb => by
    rw [← hb]; unfold upperS
    by_cases c : t = 64
    · simp [c]
    · rcases hn with rfl | rfl <;> simp [c]
  have HS := Lib.hid (readS_or n r s)
  have HRow : Hid (∀ (k r s : Nat) w, isSz s = true → k < s → r < s → Calls Tryz.prog 86 #[.int .i64 k, .int .i64 r, .int .i64 s] w (Ret (.int .u64 (rotN (2 ^ k - 1) r s s : Nat)) w)) := Lib.hid fun k r s w a b c => row_any k r s w a b c
  have HAg : Hid (∀ (v s : Nat) w, v < 18446744073709551616 → 1 ≤ s → s ≤ 64 → Calls Tryz.prog 85 #[.int .u64 v, .int .i64 s] w (Ret (.int .u64 (agN v s 64 : Nat)) w)) := Lib.hid fun v s w a b c => again_any v s w a b c
  go_enter Tryz.func63, Tryz.ntmps63
  go_wp2
  go_loop [8, 9] (fun i _ => RD n r s i) (fun i _ => 128 - (intOf i).toNat)
  case atStart => exact ⟨2, .inl rfl, rfl, fun u hu hl => by simp [isSz] at hu; omega⟩
  case round =>
    obtain ⟨m, hm, rfl, hlow⟩ := hrel
    have HL := Lib.hid hlow
    clear hlow
    rcases hm with hm | rfl
    · have hm2 := isSz_le hm
      have HM := Lib.hid hm
      clear hm
      by_cases h64 : m = 64
      · subst h64
        by_cases hnn : n = 1
        · subst hnn
          by_cases hk : okAt 1 r s 64 = true
          · obtain ⟨-, k1, k2, k3⟩ := (ok_iff _ _ _ _).1 hk
            have hD : decS 1 r s = (((maskN (s + 1).toNat r.toNat 64 : Nat) : Int), 0) := by
              rcases HS.out with ⟨-, e⟩ | ⟨t, ht, ho, hl, e⟩
              · rw [e 64 rfl] at hk; cases hk
              · have : t = 64 := by
                  apply Classical.byContradiction; intro hne
                  have h6 : t < 64 := by simp [isSz] at ht; omega
                  rw [HL.out t ht h6] at ho; cases ho
                subst this
                rw [decS_some HO.out (by omega) e, show s - leadS 64 + 1 = s + 1 by simp [leadS]]; rfl
            have HD := Lib.hid hD
            have k4 : s + 1 < 64 := by simp [leadS] at k3; omega
            have HR1 : Hid (∀ w, Calls Tryz.prog 86 #[.int .i64 (s + 1), .int .i64 r, .int .i64 64] w (Ret (.int .u64 (rotN (2 ^ (s + 1).toNat - 1) r.toNat 64 64 : Nat)) w)) := Lib.hid fun w => by
              have := HRow.out (s + 1).toNat r.toNat 64 w rfl (by omega) (by omega)
              rwa [Int.toNat_of_nonneg (by omega), Int.toNat_of_nonneg hr0] at this
            have HA1 : Hid (∀ w, Calls Tryz.prog 85 #[.int .u64 (rotN (2 ^ (s + 1).toNat - 1) r.toNat 64 64 : Nat), .int .i64 64] w (Ret (.int .u64 (maskN (s + 1).toNat r.toNat 64 : Nat)) w)) := Lib.hid fun w => by
              have h := HAg.out (rotN (2 ^ (s + 1).toNat - 1) r.toNat 64 64) 64 w (rot64 _ _) (Nat.le_of_ble_eq_true rfl) (Nat.le_of_ble_eq_true rfl)
              rwa [maskN_again] at h
            generalize rotN (2 ^ (s + 1).toNat - 1) r.toNat 64 64 = q at *
            generalize maskN (s + 1).toNat r.toNat 64 = z at *
            clear hk hD k1 k2 k3
            go_wp2_with (first | (go_at_call 86; refine (HR1.out _).mono ?_; rintro e w' ⟨rfl, rfl⟩) | (go_at_call 85; refine (HA1.out _).mono ?_; rintro e w' ⟨rfl, rfl⟩))
            go_ret2
            exact ret_two HD.out
          · have HK : Hid (okAt 1 r s 64 = false) := Lib.hid (by simpa using hk)
            have HX : Hid (¬ (s + 1 < 64)) := Lib.hid fun c => by
              apply hk; rw [ok_iff]; simp [upperS, leadS]; omega
            clear hk
            go_wp2
            all_goals first
              | (exfalso; have := HX.out; omega)
              | (go_round
                 case rel => first | exact rd_end HL.out HK.out | exact ⟨_, _, _, rd_end HL.out HK.out, rfl, rfl, rfl⟩
                 case measure => simp [intOf])
        · have hn9 : n = 0 := by omega
          subst hn9
          go_wp2
          go_round
          case rel => first | exact rd_end HL.out rfl | exact ⟨_, _, _, rd_end HL.out rfl, rfl, rfl, rfl⟩
          case measure => simp [intOf]
      · have h64b : ((m : Int) == 64) = false := by rw [beq_eq_false_iff_ne]; omega
        have hm32 : m ≤ 32 := by have := HM.out; simp [isSz] at this; omega
        by_cases hnn : n = 0
        · subst hnn
          by_cases hk : okAt 0 r s m = true
          · obtain ⟨-, k1, k2, k3⟩ := (ok_iff _ _ _ _).1 hk
            have hlm : leadS m = 64 - 2 * m := by unfold leadS; rw [if_neg (by omega)]
            rw [hlm] at k2 k3
            have hD : decS 0 r s = (((maskN (s - (64 - 2 * (m : Int)) + 1).toNat r.toNat m : Nat) : Int), 0) := by
              rcases HS.out with ⟨-, e⟩ | ⟨t, ht, ho, hl, e⟩
              · rw [e m HM.out] at hk; cases hk
              · have : t = m := by
                  rcases Int.lt_trichotomy t m with c | c | c
                  · rw [HL.out t ht c] at ho; cases ho
                  · exact c
                  · rw [hl m HM.out c] at hk; cases hk
                subst this
                rw [decS_some HO.out (by omega) e, hlm]; rfl
            have HD := Lib.hid hD
            have HR1 : Hid (∀ w, Calls Tryz.prog 86 #[.int .i64 (s - (64 - 2 * (m : Int)) + 1), .int .i64 r, .int .i64 m] w (Ret (.int .u64 (rotN (2 ^ (s - (64 - 2 * (m : Int)) + 1).toNat - 1) r.toNat m m : Nat)) w)) := Lib.hid fun w => by
              have := HRow.out (s - (64 - 2 * (m : Int)) + 1).toNat r.toNat m w HM.out (by omega) (by omega)
              rwa [Int.toNat_of_nonneg (by omega), Int.toNat_of_nonneg hr0] at this
            have HA1 : Hid (∀ w, Calls Tryz.prog 85 #[.int .u64 (rotN (2 ^ (s - (64 - 2 * (m : Int)) + 1).toNat - 1) r.toNat m m : Nat), .int .i64 m] w (Ret (.int .u64 (maskN (s - (64 - 2 * (m : Int)) + 1).toNat r.toNat m : Nat)) w)) := Lib.hid fun w =>
              HAg.out _ m w (Nat.lt_of_lt_of_le (rotN_lt _ _ _ m) (Nat.le_trans (Nat.pow_le_pow_right (by decide) (show m ≤ 64 by omega)) (by decide))) (by omega) (by omega)
            generalize rotN (2 ^ (s - (64 - 2 * (m : Int)) + 1).toNat - 1) r.toNat m m = q at *
            generalize maskN (s - (64 - 2 * (m : Int)) + 1).toNat r.toNat m = z at *
            clear hk hD hlm
            go_wp2_with (first | (go_at_call 86; refine (HR1.out _).mono ?_; rintro e w' ⟨rfl, rfl⟩) | (go_at_call 85; refine (HA1.out _).mono ?_; rintro e w' ⟨rfl, rfl⟩))
            go_ret2
            exact ret_two HD.out
          · have HK : Hid (okAt 0 r s m = false) := Lib.hid (by simpa using hk)
            have HX : Hid (¬ (r < m ∧ 1 ≤ s - (64 - 2 * (m : Int)) + 1 ∧ s - (64 - 2 * (m : Int)) + 1 < m)) := Lib.hid fun c => by
              apply hk; rw [ok_iff]
              have hlm : leadS m = 64 - 2 * m := by unfold leadS; rw [if_neg (by omega)]
              rw [hlm]
              exact ⟨by unfold upperS; rw [if_neg (by omega)], c⟩
            clear hk
            go_wp2
            all_goals first
              | (exfalso; have := HX.out; omega)
              | (go_round
                 case rel => first | exact rd_next HM.out h64 HL.out HK.out | exact ⟨_, _, _, rd_next HM.out h64 HL.out HK.out, rfl, rfl, rfl⟩
                 case measure => simp [intOf]; omega)
        · have hn9 : n = 1 := by omega
          subst hn9
          have HK : Hid (okAt 1 r s m = false) := Lib.hid (by
            unfold okAt upperS; rw [if_neg (show ¬ (m : Int) = 64 by omega)]; rfl)
          go_wp2
          go_round
          case rel => first | exact rd_next HM.out h64 HL.out HK.out | exact ⟨_, _, _, rd_next HM.out h64 HL.out HK.out, rfl, rfl, rfl⟩
          case measure => simp [intOf]; omega
    · have HD : Hid (decS n r s = (0, 3)) := Lib.hid (by
        rcases HS.out with ⟨e, -⟩ | ⟨t, ht, ho, hl, e⟩
        · exact decS_none HO.out e
        · have h6 : t < 128 := by simp [isSz] at ht; omega
          rw [HL.out t ht h6] at ho; cases ho)
      go_wp2
      go_ret2
      exact ret_two HD.out
end Go.Proofs.YtdeigbdcipkaaaaGreatDoor
