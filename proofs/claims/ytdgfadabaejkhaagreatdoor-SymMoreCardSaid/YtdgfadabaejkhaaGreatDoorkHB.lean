/- part.number, part.bytes, fix.covers: a number's bytes, the lowest first. fix.covers. -/
import Derived.Test.YtdgfadabaejkhaaGreatDoorS
import Derived.Test.YtdgfadabaejkhaaGreatDoorM0
import Derived.Lib.Strings
import Derived.Laws.BytesArg
import Derived.Laws.IdiomStrings
namespace Go.Proofs.YtdgfadabaejkhaaGreatDoor
set_option linter.unusedVariables false
set_option linter.unusedSimpArgs false
open Go.RowKit

def leV : List UInt8 → Nat
  | [] => 0
  | b :: r => b.toNat + 256 * leV r
def leB : Nat → Nat → List UInt8
  | 0, _ => []
  | n + 1, v => UInt8.ofNat v :: leB n (v / 256)
theorem leB_len (n v : Nat) : (leB n v).length = n := by
  induction n generalizing v with
  | zero => rfl
  | succ n ih => rw [leB, List.length_cons, ih]
theorem leV_lt (l : List UInt8) : leV l < 256 ^ l.length := by
  induction l with
  | nil => decide
  | cons b r ih =>
    have := b.toNat_lt
    rw [leV, List.length_cons, Nat.pow_succ]; omega
theorem leV_snoc (l : List UInt8) (b : UInt8) : leV (l ++ [b]) = leV l + b.toNat * 256 ^ l.length := by
  induction l with
  | nil => simp [leV]
  | cons a r ih =>
    rw [List.cons_append, leV, ih, leV, List.length_cons, Nat.pow_succ, Nat.mul_add, ← Nat.add_assoc]
    congr 1
    rw [Nat.mul_left_comm, Nat.mul_comm 256]
theorem leV_leB (n v : Nat) (h : v < 256 ^ n) : leV (leB n v) = v := by
  induction n generalizing v with
  | zero => simp at h; subst h; rfl
  | succ n ih =>
    rw [Nat.pow_succ] at h
    rw [leB, leV, ih (v / 256) (by omega), UInt8.toNat_ofNat']
    omega
theorem leB_leV (l : List UInt8) : leB l.length (leV l) = l := by
  induction l with
  | nil => rfl
  | cons b r ih =>
    have hb := b.toNat_lt
    rw [List.length_cons, leB, leV, show (b.toNat + 256 * leV r) / 256 = leV r from by omega, ih]
    congr 1
    apply UInt8.toNat_inj.1
    rw [UInt8.toNat_ofNat']; omega
theorem pow256 (k : Nat) : (256 : Nat) ^ k = 2 ^ (8 * k) := by rw [Nat.pow_mul]
theorem or_byte (u b k : Nat) (hu : u < 256 ^ k) (hb : b < 256) (hk : k ≤ 7) :
    bits BinOp.or IntKind.u64 (u : Int) (IntKind.u64.wrap ((b : Int) * 2 ^ (8 * k))) = ((u + b * 256 ^ k : Nat) : Int) := by
  have h1 : (256 : Nat) ^ k ≤ 256 ^ 7 := Nat.pow_le_pow_right (by decide) hk
  have h2 : b * 256 ^ k ≤ 255 * 256 ^ k := Nat.mul_le_mul_right _ (by omega)
  have h3 : (256 : Nat) ^ 7 = 72057594037927936 := by decide
  rw [h3] at h1
  rw [pow256] at hu h1 h2 ⊢
  have e : IntKind.u64.wrap ((b : Int) * 2 ^ (8 * k)) = ((b * 2 ^ (8 * k) : Nat) : Int) := by
    rw [IntKind.wrap_u64, Int.natCast_mul, pow_cast, Int.emod_eq_of_lt]
    · rw [← pow_cast, ← Int.natCast_mul]; omega
    · rw [← pow_cast, ← Int.natCast_mul]; omega
  rw [e, u64_or_nat _ _ (by omega) (by omega)]
  congr 1
  rw [Nat.or_comm, Nat.mul_comm b, ← Nat.two_pow_add_eq_or_of_lt hu, Nat.add_comm]
theorem fwrap_byte (b : UInt8) : IntKind.u64.wrap (b.toNat : Int) = (b.toNat : Int) := by
  have := b.toNat_lt
  rw [IntKind.wrap_u64, Int.emod_eq_of_lt (by omega) (by omega)]
theorem ftake_snoc (D : ByteArray) (k : Nat) (h : k < D.size) : D.data.toList.take (k + 1) = D.data.toList.take k ++ [D[k]] := by
  rw [List.take_succ_eq_append_getElem (by simpa using h)]; rfl

set_option maxRecDepth 100000 in
set_option maxHeartbeats 1000000 in
theorem fnumber_any (D : ByteArray) (w : World) (hs : D.size ≤ 8) : Calls Tryz.prog 146 #[.string D] w (Ret (.int .u64 ((leV D.data.toList : Nat) : Int)) w) := by
  go_enter Tryz.func146, Tryz.ntmps146
  go_wp2
  go_loop [3, 7] (fun v i => ∃ k : Nat, k ≤ D.size ∧ i = .int .i64 k ∧ v = .int .u64 ((leV (D.data.toList.take k) : Nat) : Int)) (fun _ i => D.size - (intOf i).toNat)
  case atStart => exact ⟨0, by omega, rfl, rfl⟩
  case round =>
    obtain ⟨k, hk, rfl, rfl⟩ := hrel
    have hl : (D.data.toList.take k).length = k := by rw [List.length_take, Array.length_toList]; have : D.data.size = D.size := rfl; omega
    by_cases hlt : k < D.size
    · have hu := leV_lt (D.data.toList.take k)
      rw [hl] at hu
      have HS : Hid (leV (D.data.toList.take (k + 1)) = leV (D.data.toList.take k) + D[k].toNat * 256 ^ k) := Lib.hid (by rw [ftake_snoc D k hlt, leV_snoc, hl])
      have HO := Lib.hid (or_byte (leV (D.data.toList.take k)) D[k].toNat k hu D[k].toNat_lt (by omega))
      generalize leV (D.data.toList.take k) = u at *
      clear hl hu
      go_wp2
      go_round
      case rel => exact ⟨k + 1, by omega, by go_num, by rw [fwrap_byte, HS.out, ← HO.out]⟩
      case measure => simp [intOf]; omega
    · have HE : Hid (D.data.toList.take k = D.data.toList) := Lib.hid (List.take_of_length_le (by rw [Array.length_toList]; have : D.data.size = D.size := rfl; omega))
      clear hl
      go_wp2
      go_ret
      exact ret_int (by rw [HE.out])

theorem strN4 (v : Nat) (hv : v < 18446744073709551616) : strOfNums [(v : Int) % 256, (v : Int) / 256 % 256, (v : Int) / 65536 % 256, (v : Int) / 16777216 % 256] = ⟨(leB 4 v).toArray⟩ := by
  unfold strOfNums
  congr 1
  simp only [List.map, leB]
  congr 1
  refine List.ext_getElem (by simp) fun i h1 h2 => ?_
  simp only [List.length_cons, List.length_nil] at h1
  have hc : i = 0 ∨ i = 1 ∨ i = 2 ∨ i = 3 := by omega
  rcases hc with rfl | rfl | rfl | rfl
  all_goals (simp only [List.getElem_cons_zero, List.getElem_cons_succ]; apply UInt8.toNat_inj.1; rw [UInt8.toNat_ofNat', UInt8.toNat_ofNat']; omega)
theorem strN8 (v : Nat) (hv : v < 18446744073709551616) : strOfNums [(v : Int) % 256, (v : Int) / 256 % 256, (v : Int) / 65536 % 256, (v : Int) / 16777216 % 256, (v : Int) / 4294967296 % 256, (v : Int) / 1099511627776 % 256, (v : Int) / 281474976710656 % 256, (v : Int) / 72057594037927936] = ⟨(leB 8 v).toArray⟩ := by
  unfold strOfNums
  congr 1
  simp only [List.map, leB]
  congr 1
  refine List.ext_getElem (by simp) fun i h1 h2 => ?_
  simp only [List.length_cons, List.length_nil] at h1
  have hc : i = 0 ∨ i = 1 ∨ i = 2 ∨ i = 3 ∨ i = 4 ∨ i = 5 ∨ i = 6 ∨ i = 7 := by omega
  rcases hc with rfl | rfl | rfl | rfl | rfl | rfl | rfl | rfl
  all_goals (simp only [List.getElem_cons_zero, List.getElem_cons_succ]; apply UInt8.toNat_inj.1; rw [UInt8.toNat_ofNat', UInt8.toNat_ofNat']; omega)
end Go.Proofs.YtdgfadabaejkhaaGreatDoor
