/- Sizes, rows of ones, trailing zeros. -/
import Derived.Test.YtdeigbdcipkaaaaDoorB6
namespace Go.Proofs.YtdeigbdcipkaaaaDoor
set_option linter.unusedVariables false
set_option linter.unusedSimpArgs false
open Go.RowKit

def pz (v s : Nat) : Bool := agN (v % 2 ^ s) s 64 == v
structure LeastSz (v m : Nat) : Prop where
  size : isSz m = true
  has : pz v m = true
  least : ∀ t : Nat, isSz t = true → t < m → pz v t = false
theorem LeastSz.uniq {v m n : Nat} (h : LeastSz v m) (k : LeastSz v n) : m = n := by
  rcases Nat.lt_trichotomy m n with c | c | c
  · have := k.least m h.size c; rw [h.has] at this; cases this
  · exact c
  · have := h.least n k.size c; rw [k.has] at this; cases this
def sizeL (v : Nat) : Nat := if pz v 2 then 2 else if pz v 4 then 4 else if pz v 8 then 8 else if pz v 16 then 16 else if pz v 32 then 32 else 64
theorem pz64 (v : Nat) (hv : v < 18446744073709551616) : pz v 64 = true := by
  unfold pz
  rw [Nat.mod_eq_of_lt (show v < 2 ^ 64 from hv), agN_self v 64 hv, beq_self_eq_true]
theorem isSz_nat {t : Nat} (h : isSz t = true) : t = 2 ∨ t = 4 ∨ t = 8 ∨ t = 16 ∨ t = 32 ∨ t = 64 := by simp [isSz] at h; omega
theorem sizeL_least (v : Nat) (hv : v < 18446744073709551616) : LeastSz v (sizeL v) := by
  have h64 := pz64 v hv
  unfold sizeL
  cases h2 : pz v 2
  · cases h4 : pz v 4
    · cases h8 : pz v 8
      · cases h16 : pz v 16
        · cases h32 : pz v 32
          · exact ⟨rfl, h64, fun t ht hl => by rcases isSz_nat ht with rfl | rfl | rfl | rfl | rfl | rfl <;> first | assumption | (simp at hl)⟩
          · exact ⟨rfl, h32, fun t ht hl => by rcases isSz_nat ht with rfl | rfl | rfl | rfl | rfl | rfl <;> first | assumption | (simp at hl)⟩
        · exact ⟨rfl, h16, fun t ht hl => by rcases isSz_nat ht with rfl | rfl | rfl | rfl | rfl | rfl <;> first | assumption | (simp at hl)⟩
      · exact ⟨rfl, h8, fun t ht hl => by rcases isSz_nat ht with rfl | rfl | rfl | rfl | rfl | rfl <;> first | assumption | (simp at hl)⟩
    · exact ⟨rfl, h4, fun t ht hl => by rcases isSz_nat ht with rfl | rfl | rfl | rfl | rfl | rfl <;> first | assumption | (simp at hl)⟩
  · exact ⟨rfl, h2, fun t ht hl => by rcases isSz_nat ht with rfl | rfl | rfl | rfl | rfl | rfl <;> first | assumption | (simp at hl)⟩
theorem low_nat (v s : Nat) (hs : 1 ≤ s) (hv : v < 18446744073709551616) : low v s = ((v % 2 ^ s : Nat) : Int) := by
  unfold low
  rw [if_neg (by omega)]
  by_cases c : 64 ≤ (s : Int)
  · rw [if_pos c, Nat.mod_eq_of_lt (Nat.lt_of_lt_of_le hv (Nat.le_trans (by decide) (Nat.pow_le_pow_right (by decide) (show 64 ≤ s by omega))))]
  · rw [if_neg c, Int.toNat_natCast, Int.natCast_emod, pow_cast]
theorem low_natC (v s : Nat) (w : World) (hs : 1 ≤ s) (hv : v < 18446744073709551616) :
    Calls Tryd.prog 56 #[.int .u64 v, .int .i64 s] w (Ret (.int .u64 (v % 2 ^ s : Nat)) w) := by
  have := low_any v s w (by omega) (by omega)
  rwa [low_nat v s hs hv] at this

theorem row_step (k : Nat) (hk : k ≤ 63) : IntKind.u64.wrap (((2 ^ k - 1 : Nat) : Int) + 2 ^ k) = ((2 ^ (k + 1) - 1 : Nat) : Int) := by
  have h := sum_step (2 ^ k - 1) k (by have := Nat.two_pow_pos k; omega) hk
  rw [h, Nat.pow_succ]; have := Nat.two_pow_pos k; congr 1; omega
theorem pow_lt64 (k : Nat) (hk : k ≤ 64) : 2 ^ k - 1 < 18446744073709551616 := by
  have := Nat.pow_le_pow_right (show 0 < 2 by decide) hk
  have := Nat.two_pow_pos k
  omega

end Go.Proofs.YtdeigbdcipkaaaaDoor
