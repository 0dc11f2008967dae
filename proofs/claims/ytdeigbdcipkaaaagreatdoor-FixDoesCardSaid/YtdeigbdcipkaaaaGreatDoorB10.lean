/- mask.Size. -/
import Derived.Test.YtdeigbdcipkaaaaGreatDoorB9
namespace Go.Proofs.YtdeigbdcipkaaaaGreatDoor
set_option linter.unusedVariables false
set_option linter.unusedSimpArgs false
open Go.RowKit

theorem repeat_low (v m : Nat) (w : World) (hs : isSz m = true) :
    Calls Tryz.prog 103 #[.int .u64 (v % 2 ^ m : Nat), .int .i64 m] w (Ret (.int .u64 (agN (v % 2 ^ m) m 64 : Nat)) w) :=
  repeat_any _ m w hs (Nat.mod_lt _ (Nat.two_pow_pos m))
def CloSmall (w : World) (B m : Nat) (e : Ending) (w' : World) : Prop :=
  e = .returned (.int .i64 ((2 * m : Nat) : Int)) ∧ Cell1 w' B ((2 * m : Nat) : Int) ∧ w.grownBy w' (some B)
theorem clo_small (m B : Nat) (w : World) (h1 : 1 ≤ m) (h2 : m ≤ 32) (hB : Cell1 w B m) :
    Calls Tryz.prog 106 #[.pointer (some ⟨B, 0, none⟩)] w (CloSmall w B m) := by
  refine (clo_any m B w h1 (by omega) hB).mono ?_
  rintro e w' ⟨he, hc, hg⟩
  rw [if_neg (by omega), Int.mul_comm] at he
  rw [Int.mul_comm] at hc
  exact ⟨by rw [he]; simp, by simpa using hc, hg⟩

set_option maxHeartbeats 1000000 in
theorem Size_any (v : Nat) (w : World) (hv : v < 18446744073709551616) :
    Calls Tryz.prog 94 #[.int .u64 v] w (RetB (.int .i64 (sizeL v : Nat)) w) := by
  have L := Lib.hid (sizeL_least v hv)
  go_enter Tryz.func94, Tryz.ntmps94
  go_wp2_with (first | (go_at_call 101; refine (sizes_any _).mono ?_; rintro e w1 ⟨rfl, rfl⟩))
  obtain ⟨B, hBd⟩ : ∃ B : Nat, B = w.heap.size := ⟨_, rfl⟩
  have hblk : Cell1 (w.alloc (.cells #[.int .i64 1] 3)) B (1 : Nat) := by rw [hBd]; exact (MapKept.heap_alloc w _).1
  have hb2 := (Below.refl w.heap.size w).alloc (Nat.le_refl _) (.cells #[.int .i64 1] 3)
  have hBs : w.heap.size ≤ B := by omega
  rw [← hBd]
  obtain ⟨wo, ho⟩ : ∃ wo : World, wo = w.alloc (.cells #[.int .i64 1] 3) := ⟨_, rfl⟩
  rw [← ho] at hb2 hblk ⊢
  have hBl : B < wo.heap.size := by rw [ho, hBd]; simp
  clear ho hBd
  refine (clo_small 1 B wo (by omega) (by omega) hblk).mono ?_
  rintro e w1 ⟨rfl, hc1, hg⟩
  have hb1 := hb2.grown hg hb2.size (fun j hj => by cases hj; exact hBs)
  have HC := Lib.hid hc1
  clear hb2 hblk hg hc1 hBl
  go_wp2
  go_loopw [4] (fun i wl => ∃ m : Nat, isSz m = true ∧ i = .int .i64 m ∧ (∀ t : Nat, isSz t = true → t < m → pz v t = false) ∧ Cell1 wl B m ∧ Below w.heap.size w wl) (fun i _ => 64 - (intOf i).toNat)
  case atStart => exact ⟨2, rfl, rfl, fun t ht hl => by rcases isSz_nat ht with rfl | rfl | rfl | rfl | rfl | rfl <;> simp at hl, HC.out, hb1⟩
  case round =>
    obtain ⟨m, hm, rfl, hlow, hcell, hb⟩ := hrel
    have hm2 := isSz_le hm
    have H0 := Lib.hid hm
    have HB := Lib.hid hlow
    have HCE := Lib.hid hcell
    clear hm hlow hcell HC
    obtain ⟨x, hx, HL⟩ : ∃ x : Nat, x = v % 2 ^ m ∧ Hid (∀ w, Calls Tryz.prog 95 #[.int .u64 v, .int .i64 m] w (Ret (.int .u64 x) w)) := ⟨_, rfl, Lib.hid fun w => low_natC v m w (by omega) hv⟩
    have HR : Hid (∀ w, Calls Tryz.prog 103 #[.int .u64 x, .int .i64 m] w (Ret (.int .u64 (agN x m 64 : Nat)) w)) := Lib.hid fun w => by rw [hx]; exact repeat_low v m w H0.out
    have he : (((agN x m 64 : Nat) : Int) != (v : Int)) = !pz v m := by rw [hx]; unfold pz; rw [Bool.eq_iff_iff]; simp; omega
    clear hx
    cases hp : pz v m
    · have h32 : m ≤ 32 := by
        rcases isSz_nat H0.out with e | e | e | e | e | e <;> subst e <;> first | omega | (rw [pz64 v hv] at hp; cases hp)
      rw [hp] at he
      have HP := Lib.hid hp
      clear hp
      have he2 : (((agN x m 64 : Nat) : Int) != (v : Int)) = true := he
      clear he
      go_wp2_with (first | (go_at_call 95; refine (HL.out _).mono ?_; rintro e w' ⟨rfl, rfl⟩) | (go_at_call 103; refine (HR.out _).mono ?_; rintro e w' ⟨rfl, rfl⟩))
      refine (clo_small m B _ (by omega) h32 HCE.out).mono ?_
      rintro e w2 ⟨rfl, hc2, hg2⟩
      have hb3 := hb.grown hg2 hb.size (fun j hj => by cases hj; exact hBs)
      have HC2 := Lib.hid hc2
      clear hg2 hc2
      go_wp2
      go_roundw
      case rel =>
        refine ⟨2 * m, by have := H0.out; simp [isSz] at this ⊢; omega, rfl, fun t ht hl => ?_, HC2.out, hb3⟩
        by_cases c : t < m
        · exact HB.out t ht c
        · have e : t = m := by
            rcases isSz_nat ht with rfl | rfl | rfl | rfl | rfl | rfl <;> rcases isSz_nat H0.out with e | e | e | e | e | e <;> omega
          rw [e]; exact HP.out
      case measure => simp [intOf]; omega
    · rw [hp] at he
      have HP := Lib.hid hp
      clear hp
      have he2 : (((agN x m 64 : Nat) : Int) != (v : Int)) = false := he
      clear he
      go_wp2_with (first | (go_at_call 95; refine (HL.out _).mono ?_; rintro e w' ⟨rfl, rfl⟩) | (go_at_call 103; refine (HR.out _).mono ?_; rintro e w' ⟨rfl, rfl⟩))
      go_ret
      refine ⟨?_, hb⟩
      rw [L.out.uniq ⟨H0.out, HP.out, HB.out⟩]; rfl
end Go.Proofs.YtdeigbdcipkaaaaGreatDoor
