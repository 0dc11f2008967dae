/- The reference's Encode and Is. -/
import Derived.Test.YtdeigbdcipkaaaaGreatDoorB13
namespace Go.Proofs.YtdeigbdcipkaaaaGreatDoor
set_option linter.unusedVariables false
set_option linter.unusedSimpArgs false
open Go.RowKit

theorem ret_four {p q : Int × Int × Int × Int} {w : World} (h : q = p) : Ret (four p) w (.returned (four q)) w := by subst h; exact ⟨rfl, rfl⟩

set_option maxHeartbeats 1000000 in
theorem refEncode_any (v : Nat) (w : World) (hv : v < 18446744073709551616) :
    Calls Tryz.prog 70 #[.int .u64 v] w (Ret (four (encS v)) w) := by
  have L := sizeL_least v hv
  have hsz := L.size
  have hsl := isSz_le hsz
  have hpv : partL v < 18446744073709551616 := Nat.lt_of_le_of_lt (Nat.mod_le _ _) hv
  have hps : partL v < 2 ^ sizeL v := Nat.mod_lt _ (Nat.two_pow_pos _)
  have hol : pcN (partL v) 64 ≤ sizeL v := by rw [pcN_more _ _ _ hps (by omega)]; exact pcN_le _ _
  have HS : Hid (∀ w, Calls Tryz.prog 89 #[.int .u64 v] w (Ret (.int .i64 (sizeL v : Nat)) w)) := Lib.hid fun w => refSize_any v w hv
  have HLow : Hid (∀ w, Calls Tryz.prog 91 #[.int .u64 v, .int .i64 (sizeL v : Nat)] w (Ret (.int .u64 (partL v : Nat)) w)) := Lib.hid fun w => refLow_nat v (sizeL v) w (by omega) hv
  have HO : Hid (∀ w, Calls Tryz.prog 90 #[.int .u64 (partL v : Nat)] w (Ret (.int .i64 (pcN (partL v) 64 : Nat)) w)) := Lib.hid fun w => refOnes_any _ w hpv
  rcases pat_or v hv with ⟨k, r, s, h⟩ | hn
  · have hp := h.pos
    have hk := h.less
    have hk1 := h.one
    have hr := h.turn
    have hpart : partL v = v % 2 ^ s := by unfold partL; rw [h.sizeL]
    have HH := Lib.hid h
    have hones : pcN (partL v) 64 = k := by rw [hpart]; exact h.ones
    rw [h.encS]
    rw [hones] at HO
    rw [h.sizeL] at HS HLow
    have HRow : Hid (∀ (j : Nat) w, j < s → Calls Tryz.prog 86 #[.int .i64 k, .int .i64 j, .int .i64 s] w (Ret (.int .u64 (rotN (2 ^ k - 1) j s s : Nat)) w)) := Lib.hid fun j w hj => row_any k j s w (isSz_of h.size) hk hj
    have HNe : Hid (∀ j : Nat, j < r → (((rotN (2 ^ k - 1) j s s : Nat) : Int) == ((partL v : Nat) : Int)) = false) := Lib.hid fun j hj => by
      rw [beq_eq_false_iff_ne]
      intro e
      have e2 : rotN (2 ^ k - 1) j s s = v % 2 ^ s := by rw [← hpart]; omega
      have hper : pz v s = true := by have := L.has; rwa [h.sizeL] at this
      have := (pat_of_part hv (isSz_of h.size) hper hk1 hk (by omega) e2).uniq h
      omega
    have HEq : Hid ((((rotN (2 ^ k - 1) r s s : Nat) : Int) == ((partL v : Nat) : Int)) = true) := Lib.hid (by rw [hpart, h.part]; simp)
    clear L hsz hsl hps hol hpart hones h
    generalize partL v = p at *
    have end64 : s = 64 → (upperS (s : Int), (r : Int), leadS s + k - 1, (0 : Int)) = (1, (r : Int), (k : Int) - 1, 0) := by rintro rfl; simp [upperS, leadS]
    have endls : s ≠ 64 → (upperS (s : Int), (r : Int), leadS s + k - 1, (0 : Int)) = (0, (r : Int), (k : Int) - 1 + 64 - 2 * s, 0) := by
      intro hne
      have hne' : ¬ ((s : Int) = 64) := by omega
      simp only [upperS, leadS, if_neg hne', Prod.mk.injEq, and_true, true_and]; omega
    have E1 := Lib.hid end64
    have E2 := Lib.hid endls
    clear end64 endls
    go_enter Tryz.func70, Tryz.ntmps70
    go_wp2_with (first | (go_at_call 89; refine (HS.out _).mono ?_; rintro e w' ⟨rfl, rfl⟩) | (go_at_call 91; refine (HLow.out _).mono ?_; rintro e w' ⟨rfl, rfl⟩) | (go_at_call 90; refine (HO.out _).mono ?_; rintro e w' ⟨rfl, rfl⟩))
    go_loop [8] (fun i => ∃ j : Nat, j ≤ r ∧ i = .int .i64 j) (fun i => 64 - (intOf i).toNat)
    case atStart => exact ⟨0, by omega, rfl⟩
    case round =>
      obtain ⟨j, hj, rfl⟩ := hrel
      by_cases hlt : j < r
      · have q := HNe.out j hlt
        obtain ⟨y, hy, HRj⟩ : ∃ y, y = rotN (2 ^ k - 1) j s s ∧ Hid (∀ w, Calls Tryz.prog 86 #[.int .i64 k, .int .i64 j, .int .i64 s] w (Ret (.int .u64 (y : Nat)) w)) := ⟨_, rfl, Lib.hid fun w => HRow.out j w (by omega)⟩
        rw [← hy] at q
        clear hy
        go_wp2_with (first | (go_at_call 86; refine (HRj.out _).mono ?_; rintro e w' ⟨rfl, rfl⟩) | (go_at_call 91; refine (HLow.out _).mono ?_; rintro e w' ⟨rfl, rfl⟩))
        go_round
        case rel => exact ⟨j + 1, by omega, by go_num⟩
        case measure => simp [intOf]; omega
      · obtain rfl : j = r := by omega
        have q := HEq.out
        obtain ⟨y, hy, HRj⟩ : ∃ y, y = rotN (2 ^ k - 1) j s s ∧ Hid (∀ w, Calls Tryz.prog 86 #[.int .i64 k, .int .i64 j, .int .i64 s] w (Ret (.int .u64 (y : Nat)) w)) := ⟨_, rfl, Lib.hid fun w => HRow.out j w (by omega)⟩
        rw [← hy] at q
        clear hy HEq
        by_cases h64 : s = 64
        · subst h64
          go_wp2_with (first | (go_at_call 86; refine (HRj.out _).mono ?_; rintro e w' ⟨rfl, rfl⟩) | (go_at_call 91; refine (HLow.out _).mono ?_; rintro e w' ⟨rfl, rfl⟩))
          refine bodyPost_ret (v := four (1, j, (k : Int) - 1, 0)) (by simp [results, Tryz.results70, go_sem]) rfl (ret_four (E1.out trivial).symm)
        · have q64 : ((s : Int) == 64) = false := by rw [beq_eq_false_iff_ne]; omega
          go_wp2_with (first | (go_at_call 86; refine (HRj.out _).mono ?_; rintro e w' ⟨rfl, rfl⟩) | (go_at_call 91; refine (HLow.out _).mono ?_; rintro e w' ⟨rfl, rfl⟩))
          refine bodyPost_ret (v := four (0, j, (k : Int) - 1 + 64 - 2 * s, 0)) (by simp [results, Tryz.results70, go_sem]) rfl (ret_four (E2.out h64).symm)
  · rw [encS_none hv hn]
    have HRow : Hid (∀ (k j s : Nat) w, isSz s = true → k < s → j < s → Calls Tryz.prog 86 #[.int .i64 k, .int .i64 j, .int .i64 s] w (Ret (.int .u64 (rotN (2 ^ k - 1) j s s : Nat)) w)) := Lib.hid fun k j s w a b c => row_any k j s w a b c
    have HNe : Hid (∀ j : Nat, 0 < pcN (partL v) 64 → pcN (partL v) 64 < sizeL v → j < sizeL v → (((rotN (2 ^ pcN (partL v) 64 - 1) j (sizeL v) (sizeL v) : Nat) : Int) == ((partL v : Nat) : Int)) = false) := Lib.hid fun j h1 h2 hj => by
      rw [beq_eq_false_iff_ne]
      intro e
      have e2 : rotN (2 ^ pcN (partL v) 64 - 1) j (sizeL v) (sizeL v) = v % 2 ^ sizeL v := by show _ = partL v; omega
      exact hn _ _ _ (pat_of_part hv hsz L.has h1 h2 hj e2)
    clear L hps hn
    generalize partL v = p at *
    generalize pcN p 64 = o at *
    generalize sizeL v = s at *
    have HZ := Lib.hid hsz
    clear hsz
    by_cases hc : 0 < o ∧ o < s
    · obtain ⟨c1, c2⟩ := hc
      go_enter Tryz.func70, Tryz.ntmps70
      go_wp2_with (first | (go_at_call 89; refine (HS.out _).mono ?_; rintro e w' ⟨rfl, rfl⟩) | (go_at_call 91; refine (HLow.out _).mono ?_; rintro e w' ⟨rfl, rfl⟩) | (go_at_call 90; refine (HO.out _).mono ?_; rintro e w' ⟨rfl, rfl⟩))
      go_loop [8] (fun i => ∃ j : Nat, j ≤ s ∧ i = .int .i64 j) (fun i => 64 - (intOf i).toNat)
      case atStart => exact ⟨0, by omega, rfl⟩
      case round =>
        obtain ⟨j, hj, rfl⟩ := hrel
        by_cases hlt : j < s
        · have q := HNe.out j c1 c2 hlt
          obtain ⟨y, hy, HRj⟩ : ∃ y, y = rotN (2 ^ o - 1) j s s ∧ Hid (∀ w, Calls Tryz.prog 86 #[.int .i64 o, .int .i64 j, .int .i64 s] w (Ret (.int .u64 (y : Nat)) w)) := ⟨_, rfl, Lib.hid fun w => HRow.out o j s w HZ.out c2 hlt⟩
          rw [← hy] at q
          clear hy
          go_wp2_with (first | (go_at_call 86; refine (HRj.out _).mono ?_; rintro e w' ⟨rfl, rfl⟩) | (go_at_call 91; refine (HLow.out _).mono ?_; rintro e w' ⟨rfl, rfl⟩))
          go_round
          case rel => exact ⟨j + 1, by omega, by go_num⟩
          case measure => simp [intOf]; omega
        · go_wp2
          refine bodyPost_ret (v := four (0, 0, 0, 3)) (by simp [results, Tryz.results70, go_sem]) rfl (ret_four rfl)
    · have hc2 : o = 0 ∨ o = s := by omega
      rcases hc2 with rfl | rfl
      all_goals
        clear hc
        go_enter Tryz.func70, Tryz.ntmps70
        go_wp2_with (first | (go_at_call 89; refine (HS.out _).mono ?_; rintro e w' ⟨rfl, rfl⟩) | (go_at_call 91; refine (HLow.out _).mono ?_; rintro e w' ⟨rfl, rfl⟩) | (go_at_call 90; refine (HO.out _).mono ?_; rintro e w' ⟨rfl, rfl⟩))
        refine wp_loop_rounds 1 ?_
        rw [rounds_succ]
        go_wp2
        refine bodyPost_ret (v := four (0, 0, 0, 3)) (by simp [results, Tryz.results70, go_sem]) rfl (ret_four rfl)

theorem isS_enc (v : Nat) (hv : v < 18446744073709551616) : isS v = ((encS v).2.2.2 == 0) := by
  rcases pat_or v hv with ⟨k, r, s, h⟩ | hn
  · rw [h.isS, h.encS]; rfl
  · rw [isS_none hv hn, encS_none hv hn]; rfl
theorem refIs_any (v : Nat) (w : World) (hv : v < 18446744073709551616) :
    Calls Tryz.prog 66 #[.int .u64 v] w (Ret (.bool (isS v)) w) := by
  rw [isS_enc v hv]
  have HE : Hid (∀ w, Calls Tryz.prog 70 #[.int .u64 v] w (Ret (four (encS v)) w)) := Lib.hid fun w => refEncode_any v w hv
  generalize encS v = p at *
  obtain ⟨a, b, c, d⟩ := p
  go_enter Tryz.func66, Tryz.ntmps66
  go_wp2_with (first | (go_at_call 70; refine (HE.out _).mono ?_; rintro e w' ⟨rfl, rfl⟩))
  go_ret
  exact ret_bool rfl
end Go.Proofs.YtdeigbdcipkaaaaGreatDoor
