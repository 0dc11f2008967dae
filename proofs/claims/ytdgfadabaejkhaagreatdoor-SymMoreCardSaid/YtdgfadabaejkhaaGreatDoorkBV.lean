/- The reference's Encode and Is. The reference's Decode. mask.read, mask.Decode. -/
import Derived.Test.YtdgfadabaejkhaaGreatDoorkBW
namespace Go.Proofs.YtdgfadabaejkhaaGreatDoor
set_option linter.unusedVariables false
set_option linter.unusedSimpArgs false
open Go.RowKit

theorem ret_four {p q : Int × Int × Int × Int} {w : World} (h : q = p) : Ret (four p) w (.returned (four q)) w := by subst h; exact ⟨rfl, rfl⟩

set_option maxHeartbeats 1000000 in
theorem refEncode_any (v : Nat) (w : World) (hv : v < 18446744073709551616) :
    Calls Tryz.prog 230 #[.int .u64 v] w (Ret (four (encS v)) w) := by
  have L := sizeL_least v hv
  have hsz := L.size
  have hsl := isSz_le hsz
  have hpv : partL v < 18446744073709551616 := Nat.lt_of_le_of_lt (Nat.mod_le _ _) hv
  have hps : partL v < 2 ^ sizeL v := Nat.mod_lt _ (Nat.two_pow_pos _)
  have hol : pcN (partL v) 64 ≤ sizeL v := by rw [pcN_more _ _ _ hps (by omega)]; exact pcN_le _ _
  have HS : Hid (∀ w, Calls Tryz.prog 250 #[.int .u64 v] w (Ret (.int .i64 (sizeL v : Nat)) w)) := Lib.hid fun w => refSize_any v w hv
  have HLow : Hid (∀ w, Calls Tryz.prog 252 #[.int .u64 v, .int .i64 (sizeL v : Nat)] w (Ret (.int .u64 (partL v : Nat)) w)) := Lib.hid fun w => refLow_nat v (sizeL v) w (by omega) hv
  have HO : Hid (∀ w, Calls Tryz.prog 251 #[.int .u64 (partL v : Nat)] w (Ret (.int .i64 (pcN (partL v) 64 : Nat)) w)) := Lib.hid fun w => refOnes_any _ w hpv
  rcases pat_or v hv with ⟨k, r, s, h⟩ | hn
  · have hp := h.pos
    have hk := h.less
    have hk1 := h.one
    have hr := h.turn
    have hpart : partL v = v % 2 ^ s := by unfold partL; rw [h.sizeL]
    have HH := Lib.hid h
    have hones : pcN (partL v) 64 = k := by rw [hpart]; exact h.ones
    rw [h.encS]
    rw [hones] at HO
    rw [h.sizeL] at HS HLow
    have HRow : Hid (∀ (j : Nat) w, j < s → Calls Tryz.prog 228 #[.int .i64 k, .int .i64 j, .int .i64 s] w (Ret (.int .u64 (rotN (2 ^ k - 1) j s s : Nat)) w)) := Lib.hid fun j w hj => row_any k j s w (isSz_of h.size) hk hj
    have HNe : Hid (∀ j : Nat, j < r → (((rotN (2 ^ k - 1) j s s : Nat) : Int) == ((partL v : Nat) : Int)) = false) := Lib.hid fun j hj => by
      rw [beq_eq_false_iff_ne]
      intro e
      have e2 : rotN (2 ^ k - 1) j s s = v % 2 ^ s := by rw [← hpart]; omega
      have hper : pz v s = true := by have := L.has; rwa [h.sizeL] at this
      have := (pat_of_part hv (isSz_of h.size) hper hk1 hk (by omega) e2).uniq h
      omega
    have HEq : Hid ((((rotN (2 ^ k - 1) r s s : Nat) : Int) == ((partL v : Nat) : Int)) = true) := Lib.hid (by rw [hpart, h.part]; simp)
    clear L hsz hsl hps hol hpart hones h
    generalize partL v = p at *
    have end64 : s = 64 → (upperS (s : Int), (r : Int), leadS s + k - 1, (0 : Int)) = (1, (r : Int), (k : Int) - 1, 0) := by rintro rfl; simp [upperS, leadS]
    have endls : s ≠ 64 → (upperS (s : Int), (r : Int), leadS s + k - 1, (0 : Int)) = (0, (r : Int), (k : Int) - 1 + 64 - 2 * s, 0) := by
      intro hne
      have hne' : ¬ ((s : Int) = 64) := by omega
      simp only [upperS, leadS, if_neg hne', Prod.mk.injEq, and_true, true_and]; omega
    have E1 := Lib.hid end64
    have E2 := Lib.hid endls
    clear end64 endls
    go_enter Tryz.func230, Tryz.ntmps230
    go_wp2_with (first | (go_at_call 250; refine (HS.out _).mono ?_; rintro e w' ⟨rfl, rfl⟩) | (go_at_call 252; refine (HLow.out _).mono ?_; rintro e w' ⟨rfl, rfl⟩) | (go_at_call 251; refine (HO.out _).mono ?_; rintro e w' ⟨rfl, rfl⟩))
    go_loop [8] (fun i => ∃ j : Nat, j ≤ r ∧ i = .int .i64 j) (fun i => 64 - (intOf i).toNat)
    case atStart => exact ⟨0, by omega, rfl⟩
    case round =>
      obtain ⟨j, hj, rfl⟩ := hrel
      by_cases hlt : j < r
      · have q := HNe.out j hlt
        obtain ⟨y, hy, HRj⟩ : ∃ y, y = rotN (2 ^ k - 1) j s s ∧ Hid (∀ w, Calls Tryz.prog 228 #[.int .i64 k, .int .i64 j, .int .i64 s] w (Ret (.int .u64 (y : Nat)) w)) := ⟨_, rfl, Lib.hid fun w => HRow.out j w (by omega)⟩
        rw [← hy] at q
        clear hy
        go_wp2_with (first | (go_at_call 228; refine (HRj.out _).mono ?_; rintro e w' ⟨rfl, rfl⟩) | (go_at_call 252; refine (HLow.out _).mono ?_; rintro e w' ⟨rfl, rfl⟩))
        go_round
        case rel => exact ⟨j + 1, by omega, by go_num⟩
        case measure => simp [intOf]; omega
      · obtain rfl : j = r := by omega
        have q := HEq.out
        obtain ⟨y, hy, HRj⟩ : ∃ y, y = rotN (2 ^ k - 1) j s s ∧ Hid (∀ w, Calls Tryz.prog 228 #[.int .i64 k, .int .i64 j, .int .i64 s] w (Ret (.int .u64 (y : Nat)) w)) := ⟨_, rfl, Lib.hid fun w => HRow.out j w (by omega)⟩
        rw [← hy] at q
        clear hy HEq
        by_cases h64 : s = 64
        · subst h64
          go_wp2_with (first | (go_at_call 228; refine (HRj.out _).mono ?_; rintro e w' ⟨rfl, rfl⟩) | (go_at_call 252; refine (HLow.out _).mono ?_; rintro e w' ⟨rfl, rfl⟩))
          refine bodyPost_ret (v := four (1, j, (k : Int) - 1, 0)) (by simp [results, Tryz.results230, go_sem]) rfl (ret_four (E1.out trivial).symm)
        · have q64 : ((s : Int) == 64) = false := by rw [beq_eq_false_iff_ne]; omega
          go_wp2_with (first | (go_at_call 228; refine (HRj.out _).mono ?_; rintro e w' ⟨rfl, rfl⟩) | (go_at_call 252; refine (HLow.out _).mono ?_; rintro e w' ⟨rfl, rfl⟩))
          refine bodyPost_ret (v := four (0, j, (k : Int) - 1 + 64 - 2 * s, 0)) (by simp [results, Tryz.results230, go_sem]) rfl (ret_four (E2.out h64).symm)
  · rw [encS_none hv hn]
    have HRow : Hid (∀ (k j s : Nat) w, isSz s = true → k < s → j < s → Calls Tryz.prog 228 #[.int .i64 k, .int .i64 j, .int .i64 s] w (Ret (.int .u64 (rotN (2 ^ k - 1) j s s : Nat)) w)) := Lib.hid fun k j s w a b c => row_any k j s w a b c
    have HNe : Hid (∀ j : Nat, 0 < pcN (partL v) 64 → pcN (partL v) 64 < sizeL v → j < sizeL v → (((rotN (2 ^ pcN (partL v) 64 - 1) j (sizeL v) (sizeL v) : Nat) : Int) == ((partL v : Nat) : Int)) = false) := Lib.hid fun j h1 h2 hj => by
      rw [beq_eq_false_iff_ne]
      intro e
      have e2 : rotN (2 ^ pcN (partL v) 64 - 1) j (sizeL v) (sizeL v) = v % 2 ^ sizeL v := by show _ = partL v; omega
      exact hn _ _ _ (pat_of_part hv hsz L.has h1 h2 hj e2)
    clear L hps hn
    generalize partL v = p at *
    generalize pcN p 64 = o at *
    generalize sizeL v = s at *
    have HZ := Lib.hid hsz
    clear hsz
    by_cases hc : 0 < o ∧ o < s
    · obtain ⟨c1, c2⟩ := hc
      go_enter Tryz.func230, Tryz.ntmps230
      go_wp2_with (first | (go_at_call 250; refine (HS.out _).mono ?_; rintro e w' ⟨rfl, rfl⟩) | (go_at_call 252; refine (HLow.out _).mono ?_; rintro e w' ⟨rfl, rfl⟩) | (go_at_call 251; refine (HO.out _).mono ?_; rintro e w' ⟨rfl, rfl⟩))
      go_loop [8] (fun i => ∃ j : Nat, j ≤ s ∧ i = .int .i64 j) (fun i => 64 - (intOf i).toNat)
      case atStart => exact ⟨0, by omega, rfl⟩
      case round =>
        obtain ⟨j, hj, rfl⟩ := hrel
        by_cases hlt : j < s
        · have q := HNe.out j c1 c2 hlt
          obtain ⟨y, hy, HRj⟩ : ∃ y, y = rotN (2 ^ o - 1) j s s ∧ Hid (∀ w, Calls Tryz.prog 228 #[.int .i64 o, .int .i64 j, .int .i64 s] w (Ret (.int .u64 (y : Nat)) w)) := ⟨_, rfl, Lib.hid fun w => HRow.out o j s w HZ.out c2 hlt⟩
          rw [← hy] at q
          clear hy
          go_wp2_with (first | (go_at_call 228; refine (HRj.out _).mono ?_; rintro e w' ⟨rfl, rfl⟩) | (go_at_call 252; refine (HLow.out _).mono ?_; rintro e w' ⟨rfl, rfl⟩))
          go_round
          case rel => exact ⟨j + 1, by omega, by go_num⟩
          case measure => simp [intOf]; omega
        · go_wp2
          refine bodyPost_ret (v := four (0, 0, 0, 3)) (by simp [results, Tryz.results230, go_sem]) rfl (ret_four rfl)
    · have hc2 : o = 0 ∨ o = s := by omega
      rcases hc2 with rfl | rfl
      all_goals
        clear hc
        go_enter Tryz.func230, Tryz.ntmps230
        go_wp2_with (first | (go_at_call 250; refine (HS.out _).mono ?_; rintro e w' ⟨rfl, rfl⟩) | (go_at_call 252; refine (HLow.out _).mono ?_; rintro e w' ⟨rfl, rfl⟩) | (go_at_call 251; refine (HO.out _).mono ?_; rintro e w' ⟨rfl, rfl⟩))
        refine wp_loop_rounds 1 ?_
        rw [rounds_succ]
        go_wp2
        refine bodyPost_ret (v := four (0, 0, 0, 3)) (by simp [results, Tryz.results230, go_sem]) rfl (ret_four rfl)

theorem isS_enc (v : Nat) (hv : v < 18446744073709551616) : isS v = ((encS v).2.2.2 == 0) := by
  rcases pat_or v hv with ⟨k, r, s, h⟩ | hn
  · rw [h.isS, h.encS]; rfl
  · rw [isS_none hv hn, encS_none hv hn]; rfl
theorem refIs_any (v : Nat) (w : World) (hv : v < 18446744073709551616) :
    Calls Tryz.prog 205 #[.int .u64 v] w (Ret (.bool (isS v)) w) := by
  rw [isS_enc v hv]
  have HE : Hid (∀ w, Calls Tryz.prog 230 #[.int .u64 v] w (Ret (four (encS v)) w)) := Lib.hid fun w => refEncode_any v w hv
  generalize encS v = p at *
  obtain ⟨a, b, c, d⟩ := p
  go_enter Tryz.func205, Tryz.ntmps205
  go_wp2_with (first | (go_at_call 230; refine (HE.out _).mono ?_; rintro e w' ⟨rfl, rfl⟩))
  go_ret
  exact ret_bool rfl

theorem decS_out {n r s : Int} (h : n < 0 ∨ n > 1 ∨ r < 0 ∨ r > 63 ∨ s < 0 ∨ s > 63) : decS n r s = (0, 1) := by unfold decS; rw [if_pos h]
theorem decS_none {n r s : Int} (h : ¬ (n < 0 ∨ n > 1 ∨ r < 0 ∨ r > 63 ∨ s < 0 ∨ s > 63)) (e : readS n r s = (0, 0, 0)) : decS n r s = (0, 3) := by unfold decS; rw [if_neg h, if_pos e]
theorem decS_some {n r s t : Int} (h : ¬ (n < 0 ∨ n > 1 ∨ r < 0 ∨ r > 63 ∨ s < 0 ∨ s > 63)) (ht : t ≠ 0) (e : readS n r s = (t, r, s - leadS t + 1)) :
    decS n r s = (((maskN (s - leadS t + 1).toNat r.toNat t.toNat : Nat) : Int), 0) := by
  unfold decS; rw [if_neg h, e, if_neg (by simp [ht])]
theorem outs {n r s : Int} (h : n < 0 ∨ n > 1 ∨ r < 0 ∨ r > 63 ∨ s < 0 ∨ s > 63) :
    n < 0 ∨ (0 ≤ n ∧ 1 < n) ∨ (0 ≤ n ∧ n ≤ 1 ∧ r < 0) ∨ (0 ≤ n ∧ n ≤ 1 ∧ 0 ≤ r ∧ 63 < r) ∨ (0 ≤ n ∧ n ≤ 1 ∧ 0 ≤ r ∧ r ≤ 63 ∧ s < 0) ∨ (0 ≤ n ∧ n ≤ 1 ∧ 0 ≤ r ∧ r ≤ 63 ∧ 0 ≤ s ∧ 63 < s) := by omega
theorem ok_iff (n r s t : Int) : okAt n r s t = true ↔ (n = upperS t ∧ r < t ∧ 1 ≤ s - leadS t + 1 ∧ s - leadS t + 1 < t) := by
  unfold okAt; simp [and_assoc]
theorem maskN_again (k r s : Nat) : agN (rotN (2 ^ k - 1) r s s) s 64 = maskN k r s := rfl

theorem rot64 (v b : Nat) : rotN v b 64 64 < 18446744073709551616 := rotN_lt v b 64 64

set_option maxHeartbeats 1000000 in
theorem refDecode_out (n r s : Int) (w : World) (h : n < 0 ∨ n > 1 ∨ r < 0 ∨ r > 63 ∨ s < 0 ∨ s > 63) :
    Calls Tryz.prog 202 #[.int .i64 n, .int .i64 r, .int .i64 s] w (Ret (two .u64 .i64 (decS n r s)) w) := by
  have H := Lib.hid (decS_out h)
  rcases outs h with h1 | ⟨h1, h2⟩ | ⟨h1, h2, h3⟩ | ⟨h1, h2, h3, h4⟩ | ⟨h1, h2, h3, h4, h5⟩ | ⟨h1, h2, h3, h4, h5, h6⟩
  all_goals
    clear h
    go_enter Tryz.func202, Tryz.ntmps202
    go_wp2
    go_ret2
    exact ret_two H.out
theorem dbl (m : Nat) (h : isSz m = true) (hl : m ≠ 64) : isSz ((2 * m : Nat) : Int) = true := by simp [isSz] at h ⊢; omega
theorem below2 {m : Nat} {P : Int → Prop} (hm : isSz m = true) (hp : ∀ u : Int, isSz u = true → u < m → P u) (hpm : P m) : ∀ u : Int, isSz u = true → u < ((2 * m : Nat) : Int) → P u := by
  intro u hu hl
  by_cases c : u < m
  · exact hp u hu c
  · have : u = m := by simp [isSz] at hu hm; omega
    rw [this]; exact hpm

def RD (n r s : Int) (i : Value) : Prop := ∃ m : Nat, (isSz m = true ∨ m = 128) ∧ i = .int .i64 m ∧ ∀ u : Int, isSz u = true → u < m → okAt n r s u = false
theorem rd_end {n r s : Int} (hlow : ∀ u : Int, isSz u = true → u < (64 : Nat) → okAt n r s u = false) (hk : okAt n r s 64 = false) : RD n r s (.int .i64 128) :=
  ⟨128, .inr rfl, rfl, fun u hu hl => by
    by_cases c : u < 64
    · exact hlow u hu c
    · have : u = 64 := by simp [isSz] at hu; omega
      rw [this]; exact hk⟩
theorem rd_next {n r s : Int} {m : Nat} (hm : isSz m = true) (h64 : ¬ m = 64) (hlow : ∀ u : Int, isSz u = true → u < m → okAt n r s u = false) (hk : okAt n r s m = false) : RD n r s (.int .i64 (2 * (m : Int))) :=
  ⟨2 * m, .inl (dbl m hm h64), by go_num, below2 (P := fun u => okAt n r s u = false) hm hlow hk⟩

set_option maxHeartbeats 1600000 in
theorem refDecode_any (n r s : Int) (w : World) :
    Calls Tryz.prog 202 #[.int .i64 n, .int .i64 r, .int .i64 s] w (Ret (two .u64 .i64 (decS n r s)) w) := by
  by_cases hout : n < 0 ∨ n > 1 ∨ r < 0 ∨ r > 63 ∨ s < 0 ∨ s > 63
  · exact refDecode_out n r s w hout
  have HO := Lib.hid hout
  have hr0 : 0 ≤ r := by omega
  have hr1 : r ≤ 63 := by omega
  have hs0 : 0 ≤ s := by omega
  have hs1 : s ≤ 63 := by omega
  have hn : n = 0 ∨ n = 1 := by omega
  have hn0 : 0 ≤ n := by omega
  have hn1 : n ≤ 1 := by omega
  clear hout
  have HN : Hid (∀ t : Int, isSz t = true → ∀ b : Bool, ((n == 1) == (t == 64)) = b → (n == upperS t) = b) := Lib.hid fun t _ b hb => by
    rw [← hb]; unfold upperS
    by_cases c : t = 64
    · simp [c]
    · rcases hn with rfl | rfl <;> simp [c]
  have HS := Lib.hid (readS_or n r s)
  have HRow : Hid (∀ (k r s : Nat) w, isSz s = true → k < s → r < s → Calls Tryz.prog 228 #[.int .i64 k, .int .i64 r, .int .i64 s] w (Ret (.int .u64 (rotN (2 ^ k - 1) r s s : Nat)) w)) := Lib.hid fun k r s w a b c => row_any k r s w a b c
  have HAg : Hid (∀ (v s : Nat) w, v < 18446744073709551616 → 1 ≤ s → s ≤ 64 → Calls Tryz.prog 227 #[.int .u64 v, .int .i64 s] w (Ret (.int .u64 (agN v s 64 : Nat)) w)) := Lib.hid fun v s w a b c => again_any v s w a b c
  go_enter Tryz.func202, Tryz.ntmps202
  go_wp2
  go_loop [8, 9] (fun i _ => RD n r s i) (fun i _ => 128 - (intOf i).toNat)
  case atStart => exact ⟨2, .inl rfl, rfl, fun u hu hl => by simp [isSz] at hu; omega⟩
  case round =>
    obtain ⟨m, hm, rfl, hlow⟩ := hrel
    have HL := Lib.hid hlow
    clear hlow
    rcases hm with hm | rfl
    · have hm2 := isSz_le hm
      have HM := Lib.hid hm
      clear hm
      by_cases h64 : m = 64
      · subst h64
        by_cases hnn : n = 1
        · subst hnn
          by_cases hk : okAt 1 r s 64 = true
          · obtain ⟨-, k1, k2, k3⟩ := (ok_iff _ _ _ _).1 hk
            have hD : decS 1 r s = (((maskN (s + 1).toNat r.toNat 64 : Nat) : Int), 0) := by
              rcases HS.out with ⟨-, e⟩ | ⟨t, ht, ho, hl, e⟩
              · rw [e 64 rfl] at hk; cases hk
              · have : t = 64 := by
                  apply Classical.byContradiction; intro hne
                  have h6 : t < 64 := by simp [isSz] at ht; omega
                  rw [HL.out t ht h6] at ho; cases ho
                subst this
                rw [decS_some HO.out (by omega) e, show s - leadS 64 + 1 = s + 1 by simp [leadS]]; rfl
            have HD := Lib.hid hD
            have k4 : s + 1 < 64 := by simp [leadS] at k3; omega
            have HR1 : Hid (∀ w, Calls Tryz.prog 228 #[.int .i64 (s + 1), .int .i64 r, .int .i64 64] w (Ret (.int .u64 (rotN (2 ^ (s + 1).toNat - 1) r.toNat 64 64 : Nat)) w)) := Lib.hid fun w => by
              have := HRow.out (s + 1).toNat r.toNat 64 w rfl (by omega) (by omega)
              rwa [Int.toNat_of_nonneg (by omega), Int.toNat_of_nonneg hr0] at this
            have HA1 : Hid (∀ w, Calls Tryz.prog 227 #[.int .u64 (rotN (2 ^ (s + 1).toNat - 1) r.toNat 64 64 : Nat), .int .i64 64] w (Ret (.int .u64 (maskN (s + 1).toNat r.toNat 64 : Nat)) w)) := Lib.hid fun w => by
              have h := HAg.out (rotN (2 ^ (s + 1).toNat - 1) r.toNat 64 64) 64 w (rot64 _ _) (Nat.le_of_ble_eq_true rfl) (Nat.le_of_ble_eq_true rfl)
              rwa [maskN_again] at h
            generalize rotN (2 ^ (s + 1).toNat - 1) r.toNat 64 64 = q at *
            generalize maskN (s + 1).toNat r.toNat 64 = z at *
            clear hk hD k1 k2 k3
            go_wp2_with (first | (go_at_call 228; refine (HR1.out _).mono ?_; rintro e w' ⟨rfl, rfl⟩) | (go_at_call 227; refine (HA1.out _).mono ?_; rintro e w' ⟨rfl, rfl⟩))
            go_ret2
            exact ret_two HD.out
          · have HK : Hid (okAt 1 r s 64 = false) := Lib.hid (by simpa using hk)
            have HX : Hid (¬ (s + 1 < 64)) := Lib.hid fun c => by
              apply hk; rw [ok_iff]; simp [upperS, leadS]; omega
            clear hk
            go_wp2
            all_goals first
              | (exfalso; have := HX.out; omega)
              | (go_round
                 case rel => first | exact rd_end HL.out HK.out | exact ⟨_, _, _, rd_end HL.out HK.out, rfl, rfl, rfl⟩
                 case measure => simp [intOf])
        · have hn9 : n = 0 := by omega
          subst hn9
          go_wp2
          go_round
          case rel => first | exact rd_end HL.out rfl | exact ⟨_, _, _, rd_end HL.out rfl, rfl, rfl, rfl⟩
          case measure => simp [intOf]
      · have h64b : ((m : Int) == 64) = false := by rw [beq_eq_false_iff_ne]; omega
        have hm32 : m ≤ 32 := by have := HM.out; simp [isSz] at this; omega
        by_cases hnn : n = 0
        · subst hnn
          by_cases hk : okAt 0 r s m = true
          · obtain ⟨-, k1, k2, k3⟩ := (ok_iff _ _ _ _).1 hk
            have hlm : leadS m = 64 - 2 * m := by unfold leadS; rw [if_neg (by omega)]
            rw [hlm] at k2 k3
            have hD : decS 0 r s = (((maskN (s - (64 - 2 * (m : Int)) + 1).toNat r.toNat m : Nat) : Int), 0) := by
              rcases HS.out with ⟨-, e⟩ | ⟨t, ht, ho, hl, e⟩
              · rw [e m HM.out] at hk; cases hk
              · have : t = m := by
                  rcases Int.lt_trichotomy t m with c | c | c
                  · rw [HL.out t ht c] at ho; cases ho
                  · exact c
                  · rw [hl m HM.out c] at hk; cases hk
                subst this
                rw [decS_some HO.out (by omega) e, hlm]; rfl
            have HD := Lib.hid hD
            have HR1 : Hid (∀ w, Calls Tryz.prog 228 #[.int .i64 (s - (64 - 2 * (m : Int)) + 1), .int .i64 r, .int .i64 m] w (Ret (.int .u64 (rotN (2 ^ (s - (64 - 2 * (m : Int)) + 1).toNat - 1) r.toNat m m : Nat)) w)) := Lib.hid fun w => by
              have := HRow.out (s - (64 - 2 * (m : Int)) + 1).toNat r.toNat m w HM.out (by omega) (by omega)
              rwa [Int.toNat_of_nonneg (by omega), Int.toNat_of_nonneg hr0] at this
            have HA1 : Hid (∀ w, Calls Tryz.prog 227 #[.int .u64 (rotN (2 ^ (s - (64 - 2 * (m : Int)) + 1).toNat - 1) r.toNat m m : Nat), .int .i64 m] w (Ret (.int .u64 (maskN (s - (64 - 2 * (m : Int)) + 1).toNat r.toNat m : Nat)) w)) := Lib.hid fun w =>
              HAg.out _ m w (Nat.lt_of_lt_of_le (rotN_lt _ _ _ m) (Nat.le_trans (Nat.pow_le_pow_right (by decide) (show m ≤ 64 by omega)) (by decide))) (by omega) (by omega)
            generalize rotN (2 ^ (s - (64 - 2 * (m : Int)) + 1).toNat - 1) r.toNat m m = q at *
            generalize maskN (s - (64 - 2 * (m : Int)) + 1).toNat r.toNat m = z at *
            clear hk hD hlm
            go_wp2_with (first | (go_at_call 228; refine (HR1.out _).mono ?_; rintro e w' ⟨rfl, rfl⟩) | (go_at_call 227; refine (HA1.out _).mono ?_; rintro e w' ⟨rfl, rfl⟩))
            go_ret2
            exact ret_two HD.out
          · have HK : Hid (okAt 0 r s m = false) := Lib.hid (by simpa using hk)
            have HX : Hid (¬ (r < m ∧ 1 ≤ s - (64 - 2 * (m : Int)) + 1 ∧ s - (64 - 2 * (m : Int)) + 1 < m)) := Lib.hid fun c => by
              apply hk; rw [ok_iff]
              have hlm : leadS m = 64 - 2 * m := by unfold leadS; rw [if_neg (by omega)]
              rw [hlm]
              exact ⟨by unfold upperS; rw [if_neg (by omega)], c⟩
            clear hk
            go_wp2
            all_goals first
              | (exfalso; have := HX.out; omega)
              | (go_round
                 case rel => first | exact rd_next HM.out h64 HL.out HK.out | exact ⟨_, _, _, rd_next HM.out h64 HL.out HK.out, rfl, rfl, rfl⟩
                 case measure => simp [intOf]; omega)
        · have hn9 : n = 1 := by omega
          subst hn9
          have HK : Hid (okAt 1 r s m = false) := Lib.hid (by
            unfold okAt upperS; rw [if_neg (show ¬ (m : Int) = 64 by omega)]; rfl)
          go_wp2
          go_round
          case rel => first | exact rd_next HM.out h64 HL.out HK.out | exact ⟨_, _, _, rd_next HM.out h64 HL.out HK.out, rfl, rfl, rfl⟩
          case measure => simp [intOf]; omega
    · have HD : Hid (decS n r s = (0, 3)) := Lib.hid (by
        rcases HS.out with ⟨e, -⟩ | ⟨t, ht, ho, hl, e⟩
        · exact decS_none HO.out e
        · have h6 : t < 128 := by simp [isSz] at ht; omega
          rw [HL.out t ht h6] at ho; cases ho)
      go_wp2
      go_ret2
      exact ret_two HD.out

abbrev Zero3 (w : World) (R : Nat) : Prop := w.heap[R]? = some (.cells #[.int .i64 0, .int .i64 0, .int .i64 0] 293 (0, 0))
def RM (w : World) (R B : Nat) (n r s : Int) (i : Value) (wl : World) : Prop :=
  ∃ m : Nat, (isSz m = true ∧ Cell1 wl B m ∨ m = 0) ∧ i = .int .i64 m ∧ (∀ u : Int, isSz u = true → (m = 0 ∨ u < m) → okAt n r s u = false) ∧ Zero3 wl R ∧ Below w.heap.size w wl
def CloR (w : World) (R B m : Nat) (e : Ending) (w' : World) : Prop :=
  e = .returned (.int .i64 (if 32 < m then 0 else (m : Int) * 2)) ∧ Cell1 w' B ((m : Int) * 2) ∧ Zero3 w' R ∧ Below w.heap.size w w'
theorem clo_R {w wl : World} {R B m : Nat} (X : Obj) (h1 : 1 ≤ m) (h2 : m ≤ 64) (hRB : R ≠ B) (hc : Cell1 wl B m) (hR : Zero3 wl R) (hb : Below w.heap.size w wl) (hBs : w.heap.size ≤ B) :
    Calls Tryz.prog 268 #[.pointer (some ⟨B, 0, none⟩)] (wl.alloc X) (CloR w R B m) := by
  have hc2 : Cell1 (wl.alloc X) B m := (Below.heap_alloc _ X _ (lt_of_block hc)).trans hc
  have hR2 : Zero3 (wl.alloc X) R := (Below.heap_alloc _ X _ (lt_of_block hR)).trans hR
  have hb2 : Below w.heap.size w (wl.alloc X) := hb.alloc hb.size X
  refine (clo_any m B _ h1 h2 hc2).mono ?_
  rintro e w' ⟨he, hcell, hg⟩
  exact ⟨he, hcell, (hg.block R (lt_of_block hR2) (by simpa using hRB)).trans hR2, hb2.grown hg hb2.size (fun j hj => by cases hj; exact hBs)⟩
theorem clo_R0 {w wl : World} {R B m : Nat} (h1 : 1 ≤ m) (h2 : m ≤ 64) (hRB : R ≠ B) (hc : Cell1 wl B m) (hR : Zero3 wl R) (hb : Below w.heap.size w wl) (hBs : w.heap.size ≤ B) :
    Calls Tryz.prog 268 #[.pointer (some ⟨B, 0, none⟩)] wl (CloR w R B m) := by
  refine (clo_any m B _ h1 h2 hc).mono ?_
  rintro e w' ⟨he, hcell, hg⟩
  exact ⟨he, hcell, (hg.block R (lt_of_block hR) (by simpa using hRB)).trans hR, hb.grown hg hb.size (fun j hj => by cases hj; exact hBs)⟩
theorem rm_next {w wl : World} {R B m : Nat} {n r s : Int} (hm : isSz m = true) (hlow : ∀ u : Int, isSz u = true → u < m → okAt n r s u = false) (hk : okAt n r s m = false)
    (hc : Cell1 wl B ((m : Int) * 2)) (hR : Zero3 wl R) (hb : Below w.heap.size w wl) : RM w R B n r s (.int .i64 (if 32 < m then 0 else (m : Int) * 2)) wl := by
  by_cases c : 32 < m
  · have h64 : m = 64 := by simp [isSz] at hm; omega
    subst h64
    refine ⟨0, .inr rfl, by simp, fun u hu _ => ?_, hR, hb⟩
    by_cases c2 : u < (64 : Nat)
    · exact hlow u hu c2
    · have : u = (64 : Nat) := by simp [isSz] at hu; omega
      rw [this]; exact hk
  · refine ⟨2 * m, .inl ⟨dbl m hm (by omega), ?_⟩, by rw [if_neg c]; go_num, fun u hu hl => ?_, hR, hb⟩
    · rw [show ((2 * m : Nat) : Int) = (m : Int) * 2 by omega]; exact hc
    · have := isSz_le hm
      exact below2 (P := fun u => okAt n r s u = false) hm hlow hk u hu (by omega)

theorem rm_meas {m : Nat} (h1 : 2 ≤ m) (h2 : m ≤ 64) : (if (intOf (Value.int IntKind.i64 (if 32 < m then 0 else (m : Int) * 2))).toNat = 0 then 0 else 128 - (intOf (Value.int IntKind.i64 (if 32 < m then 0 else (m : Int) * 2))).toNat) <
    if (intOf (Value.int IntKind.i64 (m : Int))).toNat = 0 then 0 else 128 - (intOf (Value.int IntKind.i64 (m : Int))).toNat := by
  have f : ∀ x : Int, (if (intOf (Value.int IntKind.i64 x)).toNat = 0 then 0 else 128 - (intOf (Value.int IntKind.i64 x)).toNat) = if x.toNat = 0 then 0 else 128 - x.toNat := fun x => rfl
  rw [f, f]
  by_cases c : 32 < m
  · rw [if_pos c, if_pos (show (0 : Int).toNat = 0 from rfl), if_neg (by omega)]; omega
  · rw [if_neg c, if_neg (by omega), if_neg (by omega)]; omega
theorem retB_two {k l : IntKind} {a b : Int} {p : Int × Int} {w w' : World} (h : p = (a, b)) (hb : Below w.heap.size w w') : RetB (two k l p) w (.returned (.tuple #[.int k a, .int l b])) w' := by subst h; exact ⟨rfl, hb⟩

set_option maxHeartbeats 1600000 in
theorem read_any (n r s : Int) (w : World) (hn0 : 0 ≤ n) (hn1 : n ≤ 1) (hr0 : 0 ≤ r) (hr1 : r ≤ 63) (hs0 : 0 ≤ s) (hs1 : s ≤ 63) :
    Calls Tryz.prog 255 #[.int .i64 n, .int .i64 r, .int .i64 s] w (RetB (shapeV (readS n r s)) w) := by
  have HS := Lib.hid (readS_or n r s)
  go_enter Tryz.func255, Tryz.ntmps255
  go_wp2_with (first | (go_at_call 259; refine (sizes_any _).mono ?_; rintro e w1 ⟨rfl, rfl⟩))
  obtain ⟨wz, hwz⟩ : ∃ wz : World, wz = w.alloc (.cells #[.int .i64 0, .int .i64 0, .int .i64 0] 293) := ⟨_, rfl⟩
  rw [← hwz]
  obtain ⟨R, hRd⟩ : ∃ R : Nat, R = w.heap.size := ⟨_, rfl⟩
  obtain ⟨B, hBd⟩ : ∃ B : Nat, B = wz.heap.size := ⟨_, rfl⟩
  have hz : Zero3 wz R := by rw [hwz, hRd]; exact (MapKept.heap_alloc w _).1
  have hRB : R < B := by rw [hBd]; exact lt_of_block hz
  have hbz : Below w.heap.size w wz := by rw [hwz]; exact (Below.refl w.heap.size w).alloc (Nat.le_refl _) _
  have hblk : Cell1 (wz.alloc (.cells #[.int .i64 1] 3)) B (1 : Nat) := by rw [hBd]; exact (MapKept.heap_alloc wz _).1
  have hzo : Zero3 (wz.alloc (.cells #[.int .i64 1] 3)) R := (Below.heap_alloc _ _ _ (lt_of_block hz)).trans hz
  have hb2 := hbz.alloc hbz.size (.cells #[.int .i64 1] 3)
  have HBS : Hid (w.heap.size ≤ B) := Lib.hid (by omega)
  have HRS : Hid (w.heap.size ≤ R) := Lib.hid (by omega)
  have hBe : R + 1 = B := by rw [hBd, hwz, hRd]; simp
  rw [← hRd, hBe]
  obtain ⟨wo, ho⟩ : ∃ wo : World, wo = wz.alloc (.cells #[.int .i64 1] 3) := ⟨_, rfl⟩
  rw [← ho] at hb2 hblk hzo ⊢
  clear ho hBd hRd hwz hbz hz hBe
  have HRB : Hid (R ≠ B) := Lib.hid (by omega)
  clear hRB
  refine (clo_R0 (by omega) (by omega) HRB.out hblk hzo hb2 HBS.out).mono ?_
  rintro e w1 ⟨rfl, hc1, hz1, hb1⟩
  have HC := Lib.hid hc1
  have HZ := Lib.hid hz1
  have HB := Lib.hid hb1
  clear hb2 hblk hzo hc1 hz1 hb1
  go_wp2
  go_loopw [8, 9] (fun i _ wl => RM w R B n r s i wl) (fun i _ _ => if (intOf i).toNat = 0 then 0 else 128 - (intOf i).toNat)
  case atStart => exact ⟨2, .inl ⟨rfl, HC.out⟩, rfl, fun u hu hl => by simp [isSz] at hu; omega, HZ.out, HB.out⟩
  case round =>
    obtain ⟨m, hm, rfl, hlow, hzero, hb⟩ := hrel
    clear HC HZ HB
    have HL := Lib.hid hlow
    have HZ := Lib.hid hzero
    have HB := Lib.hid hb
    clear hlow hzero hb
    rcases hm with ⟨hm, hcell⟩ | rfl
    · have hm2 := isSz_le hm
      have HM := Lib.hid hm
      have HC := Lib.hid hcell
      have HLow : Hid (∀ u : Int, isSz u = true → u < m → okAt n r s u = false) := Lib.hid fun u hu hl => HL.out u hu (.inr hl)
      clear hm hcell HL
      have HU : Hid (∀ w, Calls Tryz.prog 261 #[.int .i64 m] w (Ret (.int .i64 (upperS m)) w)) := Lib.hid fun w => upper_any m w
      have HLd : Hid (∀ w, Calls Tryz.prog 260 #[.int .i64 m] w (Ret (.int .i64 (leadS m)) w)) := Lib.hid fun w => lead_any m w (by omega) (by omega)
      have lb := lead_b m (by omega) (by omega)
      have ub := upper_b m
      have HI := Lib.hid (ok_iff n r s m)
      have m0 : ((m : Int) != 0) = true := by rw [bne_iff_ne]; omega
      obtain ⟨d0, d1, d2, e0, e1, e2⟩ := blk3 HZ.out
      by_cases hk : okAt n r s m = true
      · obtain ⟨k0, k1, k2, k3⟩ := (ok_iff _ _ _ _).1 hk
        have hD : readS n r s = ((m : Int), r, s - leadS m + 1) := by
          rcases HS.out with ⟨-, e⟩ | ⟨t, ht, ho, hl, e⟩
          · rw [e m HM.out] at hk; cases hk
          · have : t = m := by
              rcases Int.lt_trichotomy t m with c | c | c
              · rw [HLow.out t ht c] at ho; cases ho
              · exact c
              · rw [hl m HM.out c] at hk; cases hk
            subst this
            rw [e]
        rw [hD]
        have q0 : (n == upperS m) = true := by rw [beq_iff_eq]; exact k0
        clear hk hD k0 HI
        generalize upperS (m : Int) = u at *
        generalize leadS (m : Int) = l at *
        go_wp2_with (first | (go_at_call 260; refine (HLd.out _).mono ?_; rintro e w' ⟨rfl, rfl⟩) | (go_at_call 261; refine (HU.out _).mono ?_; rintro e w' ⟨rfl, rfl⟩))
        have hz2 : Zero3 (wr.alloc (.cells #[.int .i64 m, .int .i64 r, .int .i64 (s - l + 1)] 293)) R := (Below.heap_alloc _ _ _ (lt_of_block HZ.out)).trans HZ.out
        obtain ⟨f0, f1, f2, -, -, -⟩ := blk0 (set012 hz2 (.int .i64 m) (.int .i64 r) (.int .i64 (s - l + 1)))
        refine bodyPost_ret (v := shapeV (m, r, s - l + 1)) (by simp [results, Tryz.results255, go_sem, f0, f1, f2]) rfl ⟨rfl, ?_⟩
        exact below_set012 (HB.out.alloc HB.out.size _) HRS.out
      · have HK : Hid (okAt n r s m = false) := Lib.hid (by simpa using hk)
        have HX : Hid (¬ (n = upperS m ∧ r < m ∧ 1 ≤ s - leadS m + 1 ∧ s - leadS m + 1 < m)) := Lib.hid fun c => hk (HI.out.2 c)
        clear hk HI
        have HN : Hid (RM w R B n r s = RM w R B n r s) := Lib.hid rfl
        generalize upperS (m : Int) = u at *
        generalize leadS (m : Int) = l at *
        by_cases hq : n = u
        · have q0 : (n == u) = true := by rw [beq_iff_eq]; exact hq
          have HQ := Lib.hid hq
          clear hq
          go_wp2_with (first | (go_at_call 260; refine (HLd.out _).mono ?_; rintro e w' ⟨rfl, rfl⟩) | (go_at_call 261; refine (HU.out _).mono ?_; rintro e w' ⟨rfl, rfl⟩))
          all_goals first
            | (exfalso; apply HX.out; exact ⟨HQ.out, by omega, by omega, by omega⟩)
            | (refine (clo_R _ (by omega) (by omega) HRB.out HC.out HZ.out HB.out HBS.out).mono ?_
               rintro e w2 ⟨rfl, hc2, hz2, hb2⟩
               have HN2 := Lib.hid (rm_next HM.out HLow.out HK.out hc2 hz2 hb2)
               clear hc2 hz2 hb2
               go_wp2
               go_roundw
               case rel => exact HN2.out
               case measure => exact rm_meas (by omega) (by omega))
        · have q0 : (n == u) = false := by rw [beq_eq_false_iff_ne]; exact hq
          clear hq
          go_wp2_with (first | (go_at_call 260; refine (HLd.out _).mono ?_; rintro e w' ⟨rfl, rfl⟩) | (go_at_call 261; refine (HU.out _).mono ?_; rintro e w' ⟨rfl, rfl⟩))
          refine (clo_R _ (by omega) (by omega) HRB.out HC.out HZ.out HB.out HBS.out).mono ?_
          rintro e w2 ⟨rfl, hc2, hz2, hb2⟩
          have HN2 := Lib.hid (rm_next HM.out HLow.out HK.out hc2 hz2 hb2)
          clear hc2 hz2 hb2
          go_wp2
          go_roundw
          case rel => exact HN2.out
          case measure => exact rm_meas (by omega) (by omega)
    · have hD : readS n r s = (0, 0, 0) := by
        rcases HS.out with ⟨e, -⟩ | ⟨t, ht, ho, hl, e⟩
        · exact e
        · rw [HL.out t ht (.inl rfl)] at ho; cases ho
      have HD := Lib.hid hD
      clear hD
      obtain ⟨d0, d1, d2, e0, e1, e2⟩ := blk0 HZ.out
      go_wp2
      obtain ⟨f0, f1, f2, -, -, -⟩ := blk0 (set012 HZ.out (.int .i64 0) (.int .i64 0) (.int .i64 0))
      refine bodyPost_ret (v := shapeV (0, 0, 0)) (by simp [results, Tryz.results255, go_sem, f0, f1, f2]) rfl ⟨by rw [HD.out], below_set012 HB.out HRS.out⟩

set_option maxHeartbeats 1000000 in
theorem Decode_out (n r s : Int) (w : World) (h : n < 0 ∨ n > 1 ∨ r < 0 ∨ r > 63 ∨ s < 0 ∨ s > 63) :
    Calls Tryz.prog 233 #[.int .i64 n, .int .i64 r, .int .i64 s] w (RetB (two .u64 .i64 (decS n r s)) w) := by
  have H := Lib.hid (decS_out h)
  rcases outs h with h1 | ⟨h1, h2⟩ | ⟨h1, h2, h3⟩ | ⟨h1, h2, h3, h4⟩ | ⟨h1, h2, h3, h4, h5⟩ | ⟨h1, h2, h3, h4, h5, h6⟩
  all_goals
    clear h
    go_enter Tryz.func233, Tryz.ntmps233
    go_wp2
    go_ret2
    exact retB_two H.out (Below.refl _ _)
set_option maxHeartbeats 1000000 in
theorem Decode_any (n r s : Int) (w : World) :
    Calls Tryz.prog 233 #[.int .i64 n, .int .i64 r, .int .i64 s] w (RetB (two .u64 .i64 (decS n r s)) w) := by
  by_cases hout : n < 0 ∨ n > 1 ∨ r < 0 ∨ r > 63 ∨ s < 0 ∨ s > 63
  · exact Decode_out n r s w hout
  have HO := Lib.hid hout
  have hr0 : 0 ≤ r := by omega
  have hr1 : r ≤ 63 := by omega
  have hs0 : 0 ≤ s := by omega
  have hs1 : s ≤ 63 := by omega
  have hn0 : 0 ≤ n := by omega
  have hn1 : n ≤ 1 := by omega
  clear hout
  have HR : Hid (Calls Tryz.prog 255 #[.int .i64 n, .int .i64 r, .int .i64 s] w (RetB (shapeV (readS n r s)) w)) := Lib.hid (read_any n r s w hn0 hn1 hr0 hr1 hs0 hs1)
  rcases readS_or n r s with ⟨e, -⟩ | ⟨t, ht, ho, -, e⟩
  · have HD := Lib.hid (decS_none HO.out e)
    rw [e] at HR
    clear e
    go_enter Tryz.func233, Tryz.ntmps233
    go_wp2_with fail
    refine HR.out.mono ?_
    rintro e w1 ⟨rfl, hb⟩
    have HB := Lib.hid hb
    clear hb
    go_wp2
    go_ret2
    exact retB_two HD.out (HB.out.alloc HB.out.size _)
  · have ht2 := isSz_le ht
    have HD := Lib.hid (decS_some HO.out (by omega) e)
    rw [e] at HR
    obtain ⟨k0, k1, k2, k3⟩ := (ok_iff _ _ _ _).1 ho
    have tz : (t == 0) = false := by rw [beq_eq_false_iff_ne]; omega
    have HM : Hid (∀ w, Calls Tryz.prog 256 #[.agg #[.int .i64 t, .int .i64 r, .int .i64 (s - leadS t + 1)]] w (RetB (.int .u64 (maskN (s - leadS t + 1).toNat r.toNat t.toNat)) w)) := Lib.hid fun w => by
      have := make64_any (s - leadS t + 1).toNat r.toNat t.toNat w (by rw [Int.toNat_of_nonneg (by omega)]; exact ht) (by omega) (by omega) (by omega)
      rwa [Int.toNat_of_nonneg (by omega), Int.toNat_of_nonneg hr0, Int.toNat_of_nonneg (by omega)] at this
    clear e ho k0 ht
    generalize maskN (s - leadS t + 1).toNat r.toNat t.toNat = q at *
    generalize s - leadS t + 1 = o at *
    go_enter Tryz.func233, Tryz.ntmps233
    go_wp2_with fail
    refine HR.out.mono ?_
    rintro e w1 ⟨rfl, hb⟩
    have HB := Lib.hid hb
    clear hb
    go_wp2_with fail
    obtain ⟨w2, hw2⟩ : ∃ w2, w2 = w1.alloc (.cells #[.int .i64 t, .int .i64 r, .int .i64 o] 293) := ⟨_, rfl⟩
    have HB2 : Hid (Below w.heap.size w w2) := Lib.hid (by rw [hw2]; exact HB.out.alloc HB.out.size _)
    rw [← hw2]
    clear hw2
    refine (HM.out _).mono ?_
    rintro e w3 ⟨rfl, hb3⟩
    have HB3 : Hid (Below w.heap.size w w3) := Lib.hid (after HB2.out hb3)
    clear hb3
    go_wp2
    go_ret2
    exact retB_two HD.out HB3.out
end Go.Proofs.YtdgfadabaejkhaaGreatDoor
