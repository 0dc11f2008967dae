/- Sizes, rows of ones, trailing zeros. -/
import Derived.Test.YtdeigbdcipkaaaaGreatDoorB6
namespace Go.Proofs.YtdeigbdcipkaaaaGreatDoor
set_option linter.unusedVariables false
set_option linter.unusedSimpArgs false
open Go.RowKit

def pz (v s : Nat) : Bool := agN (v % 2 ^ s) s 64 == v
structure LeastSz (v m : Nat) : Prop where
  size : isSz m = true
  has : pz v m = true
  least : ∀ t : Nat, isSz t = true → t < m → pz v t = false
theorem LeastSz.uniq {v m n : Nat} (h : LeastSz v m) (k : LeastSz v n) : m = n := by
  rcases Nat.lt_trichotomy m n with c | c | c
  · have := k.least m h.size c; rw [h.has] at this; cases this
  · exact c
  · have := h.least n k.size c; rw [k.has] at this; cases this
def sizeL (v : Nat) : Nat := if pz v 2 then 2 else if pz v 4 then 4 else if pz v 8 then 8 else if pz v 16 then 16 else if pz v 32 then 32 else 64
theorem pz64 (v : Nat) (hv : v < 18446744073709551616) : pz v 64 = true := by
  unfold pz
  rw [Nat.mod_eq_of_lt (show v < 2 ^ 64 from hv), agN_self v 64 hv, beq_self_eq_true]
theorem isSz_nat {t : Nat} (h : isSz t = true) : t = 2 ∨ t = 4 ∨ t = 8 ∨ t = 16 ∨ t = 32 ∨ t = 64 := by simp [isSz] at h; omega
theorem sizeL_least (v : Nat) (hv : v < 18446744073709551616) : LeastSz v (sizeL v) := by
  have h64 := pz64 v hv
  unfold sizeL
  cases h2 : pz v 2
  · cases h4 : pz v 4
    · cases h8 : pz v 8
      · cases h16 : pz v 16
        · cases h32 : pz v 32
          · exact ⟨rfl, h64, fun t ht hl => by rcases isSz_nat ht with rfl | rfl | rfl | rfl | rfl | rfl <;> first | assumption | (simp at hl)⟩
          · exact ⟨rfl, h32, fun t ht hl => by rcases isSz_nat ht with rfl | rfl | rfl | rfl | rfl | rfl <;> first | assumption | (simp at hl)⟩
        · exact ⟨rfl, h16, fun t ht hl => by rcases isSz_nat ht with rfl | rfl | rfl | rfl | rfl | rfl <;> first | assumption | (simp at hl)⟩
      · exact ⟨rfl, h8, fun t ht hl => by rcases isSz_nat ht with rfl | rfl | rfl | rfl | rfl | rfl <;> first | assumption | (simp at hl)⟩
    · exact ⟨rfl, h4, fun t ht hl => by rcases isSz_nat ht with rfl | rfl | rfl | rfl | rfl | rfl <;> first | assumption | (simp at hl)⟩
  · exact ⟨rfl, h2, fun t ht hl => by rcases isSz_nat ht with rfl | rfl | rfl | rfl | rfl | rfl <;> first | assumption | (simp at hl)⟩
theorem low_nat (v s : Nat) (hs : 1 ≤ s) (hv : v < 18446744073709551616) : low v s = ((v % 2 ^ s : Nat) : Int) := by
  unfold low
  rw [if_neg (by omega)]
  by_cases c : 64 ≤ (s : Int)
  · rw [if_pos c, Nat.mod_eq_of_lt (Nat.lt_of_lt_of_le hv (Nat.le_trans (by decide) (Nat.pow_le_pow_right (by decide) (show 64 ≤ s by omega))))]
  · rw [if_neg c, Int.toNat_natCast, Int.natCast_emod, pow_cast]
theorem refLow_nat (v s : Nat) (w : World) (hs : 1 ≤ s) (hv : v < 18446744073709551616) :
    Calls Tryz.prog 91 #[.int .u64 v, .int .i64 s] w (Ret (.int .u64 (v % 2 ^ s : Nat)) w) := by
  have := refLow_any v s w (by omega) (by omega)
  rwa [low_nat v s hs hv] at this
theorem low_natC (v s : Nat) (w : World) (hs : 1 ≤ s) (hv : v < 18446744073709551616) :
    Calls Tryz.prog 95 #[.int .u64 v, .int .i64 s] w (Ret (.int .u64 (v % 2 ^ s : Nat)) w) := by
  have := low_any v s w (by omega) (by omega)
  rwa [low_nat v s hs hv] at this

set_option maxHeartbeats 400000 in
theorem refSize_any (v : Nat) (w : World) (hv : v < 18446744073709551616) :
    Calls Tryz.prog 89 #[.int .u64 v] w (Ret (.int .i64 (sizeL v : Nat)) w) := by
  have L := Lib.hid (sizeL_least v hv)
  go_enter Tryz.func89, Tryz.ntmps89
  go_wp2
  go_loop [3] (fun i => ∃ m : Nat, isSz m = true ∧ i = .int .i64 m ∧ ∀ t : Nat, isSz t = true → t < m → pz v t = false) (fun i => 64 - (intOf i).toNat)
  case atStart => exact ⟨2, rfl, rfl, fun t ht hl => by rcases isSz_nat ht with rfl | rfl | rfl | rfl | rfl | rfl <;> simp at hl⟩
  case round =>
    obtain ⟨m, hm, rfl, hb⟩ := hrel
    have hm2 := isSz_le hm
    have H0 := Lib.hid hm
    have HB := Lib.hid hb
    clear hm hb
    by_cases hlt : m < 64
    · have h32 : m ≤ 32 := by have := H0.out; simp [isSz] at this; omega
      obtain ⟨x, hx, HL⟩ : ∃ x : Nat, x = v % 2 ^ m ∧ Hid (∀ w, Calls Tryz.prog 91 #[.int .u64 v, .int .i64 m] w (Ret (.int .u64 x) w)) := ⟨_, rfl, Lib.hid fun w => refLow_nat v m w (by omega) hv⟩
      have hxl : x < 18446744073709551616 := by rw [hx]; exact Nat.lt_of_le_of_lt (Nat.mod_le _ _) hv
      have he : (((agN x m 64 : Nat) : Int) == (v : Int)) = pz v m := by rw [hx]; unfold pz; rw [Bool.eq_iff_iff]; simp; omega
      clear hx
      cases hp : pz v m
      · rw [hp] at he
        have HP := Lib.hid hp
        clear hp
        go_wp2_with (first | (go_at_call 91; refine (HL.out _).mono ?_; rintro e w' ⟨rfl, rfl⟩) | (go_at_call 85; refine (again_any _ _ _ (by omega) (by omega) (by omega)).mono ?_; rintro e w' ⟨rfl, rfl⟩))
        go_round
        case rel =>
          refine ⟨2 * m, by have := H0.out; simp [isSz] at this ⊢; omega, by go_num, fun t ht hl => ?_⟩
          by_cases c : t < m
          · exact HB.out t ht c
          · have e : t = m := by
              rcases isSz_nat ht with rfl | rfl | rfl | rfl | rfl | rfl <;> rcases isSz_nat H0.out with e | e | e | e | e | e <;> omega
            rw [e]; exact HP.out
        case measure => simp [intOf]; omega
      · rw [hp] at he
        have HP := Lib.hid hp
        clear hp
        go_wp2_with (first | (go_at_call 91; refine (HL.out _).mono ?_; rintro e w' ⟨rfl, rfl⟩) | (go_at_call 85; refine (again_any _ _ _ (by omega) (by omega) (by omega)).mono ?_; rintro e w' ⟨rfl, rfl⟩))
        go_ret
        exact ret_int (by rw [L.out.uniq ⟨H0.out, HP.out, HB.out⟩])
    · obtain rfl : m = 64 := by omega
      go_wp2
      go_ret
      exact ret_int (by rw [L.out.uniq ⟨H0.out, pz64 v hv, HB.out⟩]; rfl)

theorem row_step (k : Nat) (hk : k ≤ 63) : IntKind.u64.wrap (((2 ^ k - 1 : Nat) : Int) + 2 ^ k) = ((2 ^ (k + 1) - 1 : Nat) : Int) := by
  have h := sum_step (2 ^ k - 1) k (by have := Nat.two_pow_pos k; omega) hk
  rw [h, Nat.pow_succ]; have := Nat.two_pow_pos k; congr 1; omega
theorem pow_lt64 (k : Nat) (hk : k ≤ 64) : 2 ^ k - 1 < 18446744073709551616 := by
  have := Nat.pow_le_pow_right (show 0 < 2 by decide) hk
  have := Nat.two_pow_pos k
  omega

set_option maxHeartbeats 400000 in
theorem row_any (k r s : Nat) (w : World) (hs : isSz s = true) (hk : k < s) (hr : r < s) :
    Calls Tryz.prog 86 #[.int .i64 k, .int .i64 r, .int .i64 s] w (Ret (.int .u64 (rotN (2 ^ k - 1) r s s : Nat)) w) := by
  have hl := isSz_le hs
  have hpl := pow_lt64 k (by omega)
  have R := Lib.hid (rotS2 (v := 2 ^ k - 1) hs hr (by
    have h1 : 2 ^ k ≤ 2 ^ s := Nat.pow_le_pow_right (by decide) (by omega)
    have h2 := Nat.two_pow_pos k
    rw [← pow_cast]; omega))
  go_enter Tryz.func86, Tryz.ntmps86
  go_wp2
  go_loop [7, 8] (fun t i => ∃ j : Nat, j ≤ k ∧ i = .int .i64 j ∧ t = .int .u64 (2 ^ j - 1 : Nat)) (fun _ i => k - (intOf i).toNat)
  case atStart => exact ⟨0, by omega, rfl, rfl⟩
  case round =>
    obtain ⟨j, hj, rfl, rfl⟩ := hrel
    by_cases hlt : j < k
    · have H3 := Lib.hid (row_step j (by omega))
      go_wp2_with (first | (go_at_call 48; refine (Power_any _ _ (by omega)).mono ?_; rintro e w' ⟨rfl, rfl⟩))
      go_round
      case rel => exact ⟨j + 1, by omega, by go_num, by rw [H3.out]⟩
      case measure => simp [intOf]; omega
    · obtain rfl : j = k := by omega
      go_wp2_with (first | (go_at_call 99; refine (refRotate_any _ _ _ _ (by omega) (by omega)).mono ?_; rintro e w' ⟨rfl, rfl⟩))
      go_ret
      refine ret_int ?_
      rw [R.out]
end Go.Proofs.YtdeigbdcipkaaaaGreatDoor
