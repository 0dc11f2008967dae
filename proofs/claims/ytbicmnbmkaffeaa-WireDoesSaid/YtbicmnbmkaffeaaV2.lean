/- wire.Get. -/
import Derived.Test.YtbicmnbmkaffeaaV1
import Derived.Test.YtbicmnbmkaffeaaS
namespace Go.Proofs.Ytbicmnbmkaffeaa
set_option linter.unusedVariables false
set_option linter.unusedSimpArgs false
open Go.RowKit

def gv (r : Nat × Nat × Nat) : Value := .tuple #[.int .u64 (r.1 : Int), .int .i64 (r.2.1 : Int), .int .i64 (r.2.2 : Int)]
theorem ret_gv {a b c : Int} {r : Nat × Nat × Nat} {w : World} (x y z : Nat) (h : r = (x, y, z)) (ha : a = x) (hb : b = y) (hc : c = z) : Ret (gv r) w (.returned (.tuple #[.int .u64 a, .int .i64 b, .int .i64 c])) w := by
  subst h ha hb hc; exact ⟨rfl, rfl⟩
theorem bytes_drop (D : ByteArray) (pos : Nat) (h : pos < D.size) : D.data.toList.drop pos = D[pos] :: D.data.toList.drop (pos + 1) := by
  rw [List.drop_eq_getElem_cons (by simpa using h)]; rfl
theorem bytes_len (D : ByteArray) : D.data.toList.length = D.size := Array.length_toList

theorem or_join (u x k : Nat) (hu : u < 128 ^ k) (hx : u + x * 128 ^ k < 18446744073709551616) (hk : k ≤ 9) :
    bits BinOp.or IntKind.u64 (u : Int) (IntKind.u64.wrap ((x : Int) * 2 ^ (7 * k))) = ((u + x * 128 ^ k : Nat) : Int) := by
  have ep : (128 : Nat) ^ k = 2 ^ (7 * k) := by rw [Nat.pow_mul]
  have hb := pow_b hk
  rw [ep] at hu hx hb ⊢
  have e : IntKind.u64.wrap ((x : Int) * 2 ^ (7 * k)) = ((x * 2 ^ (7 * k) : Nat) : Int) := by
    rw [IntKind.wrap_u64, Int.natCast_mul, pow_cast, Int.emod_eq_of_lt]
    · rw [← pow_cast, ← Int.natCast_mul]; omega
    · rw [← pow_cast, ← Int.natCast_mul]; omega
  rw [e, u64_or_nat _ _ (by omega) (by omega)]
  congr 1
  rw [Nat.or_comm, Nat.mul_comm x, ← Nat.two_pow_add_eq_or_of_lt hu, Nat.add_comm]
theorem or_join9 (u x : Nat) (hu : u < 128 ^ 9) (hx : x ≤ 1) : bits BinOp.or IntKind.u64 (u : Int) ((x : Int) * 9223372036854775808) = ((u + x * 128 ^ 9 : Nat) : Int) := by
  have h := or_join u x 9 hu (by rw [pow_9] at hu ⊢; omega) (by decide)
  rw [← h]
  congr 1
  rw [IntKind.wrap_u64, Int.emod_eq_of_lt (by omega) (by omega)]
  rfl

theorem or_end (u b k : Nat) (hu : u < 128 ^ k) (hb : b < 128) (hk : k ≤ 8) : bits BinOp.or IntKind.u64 (u : Int) (IntKind.u64.wrap ((b : Int) % 128 * 2 ^ (7 * k))) = ((u + b * 128 ^ k : Nat) : Int) := by
  have h3 : b * 128 ^ k ≤ 127 * 128 ^ k := Nat.mul_le_mul_right _ (by omega)
  have h4 := pow_b (k := k + 1) (by omega)
  rw [pow_s] at h4
  rw [← or_join u b k hu (by omega) (by omega), Int.emod_eq_of_lt (by omega) (by omega)]
theorem on_lt {u b k : Nat} (hu : u < 128 ^ k) : u + b % 128 * 128 ^ k < 128 ^ (k + 1) := by
  have h3 : b % 128 * 128 ^ k ≤ 127 * 128 ^ k := Nat.mul_le_mul_right _ (by omega)
  rw [pow_s]; omega
theorem or_on (u b k : Nat) (hu : u < 128 ^ k) (hk : k ≤ 8) : bits BinOp.or IntKind.u64 (u : Int) (IntKind.u64.wrap ((b : Int) % 128 * 2 ^ (7 * k))) = ((u + b % 128 * 128 ^ k : Nat) : Int) := by
  have h4 := pow_b (k := k + 1) (by omega)
  have := on_lt (b := b) hu
  rw [← or_join u (b % 128) k hu (by omega) (by omega)]
  rfl
theorem or_nine (u b : Nat) (hu : u < 128 ^ 9) (hb : b ≤ 1) : bits BinOp.or IntKind.u64 (u : Int) ((b : Int) % 128 * 9223372036854775808) = ((u + b * 128 ^ 9 : Nat) : Int) := by
  rw [← or_join9 u b hu hb, Int.emod_eq_of_lt (by omega) (by omega)]

set_option maxRecDepth 100000 in
set_option maxHeartbeats 1000000 in
theorem Get_any (D : ByteArray) (w : World) (hs : D.size ≤ maxLen) : Calls Try.prog 20 #[.string D] w (Ret (gv (getL D.data.toList)) w) := by
  unfold maxLen at hs
  have HL := Lib.hid (bytes_len D)
  by_cases h10 : 10 < D.size
  all_goals
    go_enter Try.func20, Try.ntmps20
    go_wp2
    go_loop [5, 11] (fun v i => ∃ k u : Nat, k ≤ 9 ∧ k ≤ D.size ∧ i = .int .i64 k ∧ v = .int .u64 (u : Int) ∧ u < 128 ^ k ∧ getL D.data.toList = getF k u (D.data.toList.drop k)) (fun _ i => D.size - (intOf i).toNat)
    case atStart => exact ⟨0, 0, by omega, by omega, rfl, rfl, by decide, rfl⟩
    case round =>
      obtain ⟨k, u, hk9, hk, rfl, rfl, hu, hg⟩ := hrel
      have HG := Lib.hid hg
      have HU := Lib.hid hu
      clear hg hu
      by_cases hlt : k < D.size
      · have HD := Lib.hid (bytes_drop D k hlt)
        generalize hb : D[k] = b at *
        have hb2 : b.toNat < 256 := b.toNat_lt
        by_cases hb0 : b.toNat = 0
        · have q0 : ((b.toNat : Int) == 0) = true := by rw [hb0]; rfl
          have hb1 : b.toNat ≤ 0 := by omega
          have HB := Lib.hid hb0
          clear hb0
          by_cases hk0 : k = 0
          · have HK := Lib.hid hk0
            have hk1 : k ≤ 0 := by omega
            clear hk0
            go_wp2
            all_goals
              go_ret3
              refine ret_gv (u + b.toNat * 128 ^ k) (k + 1) 0 (by rw [HG.out, HD.out, getF_end (by omega) (by omega)]) ?_ (by rw [HK.out]; rfl) rfl
              rw [← or_join u b.toNat k HU.out (by rw [HB.out]; have := HU.out; have := pow_b hk9; omega) hk9, HB.out]
              rfl
          · have hk1 : 0 < k := by omega
            clear hk0
            go_wp2
            all_goals
              go_ret3
              exact ret_gv 0 0 3 (by rw [HG.out, HD.out, getF_form (by omega)]) rfl rfl rfl
        · have q0 : ((b.toNat : Int) == 0) = false := by rw [beq_eq_false_iff_ne]; omega
          have hb1 : 1 ≤ b.toNat := by omega
          clear hb0
          have OE : Hid (k ≠ 9 → b.toNat < 128 → bits BinOp.or IntKind.u64 (u : Int) (IntKind.u64.wrap ((b.toNat : Int) % 128 * 2 ^ (7 * k))) = ((u + b.toNat * 128 ^ k : Nat) : Int)) := Lib.hid fun h1 h2 => or_end u _ k HU.out h2 (by omega)
          have OO : Hid (k ≠ 9 → bits BinOp.or IntKind.u64 (u : Int) (IntKind.u64.wrap ((b.toNat : Int) % 128 * 2 ^ (7 * k))) = ((u + b.toNat % 128 * 128 ^ k : Nat) : Int)) := Lib.hid fun h1 => or_on u _ k HU.out (by omega)
          have ON : Hid (k = 9 → b.toNat ≤ 1 → bits BinOp.or IntKind.u64 (u : Int) ((b.toNat : Int) % 128 * 9223372036854775808) = ((u + b.toNat * 128 ^ k : Nat) : Int)) := Lib.hid fun h1 h2 => by have := HU.out; subst h1; exact or_nine u _ this h2
          have OU : Hid (k ≠ 9 → u + b.toNat % 128 * 128 ^ k < 128 ^ (k + 1)) := Lib.hid fun _ => on_lt HU.out
          go_wp2
          all_goals first
            | (go_ret3
               exact ret_gv 0 0 3 (by rw [HG.out, HD.out, getF_form (by omega)]) rfl rfl rfl)
            | (go_ret3
               exact ret_gv (u + b.toNat * 128 ^ k) (k + 1) 0 (by rw [HG.out, HD.out, getF_end (by omega) (by omega)]) (by first | exact OE.out (by omega) (by omega) | exact ON.out (by omega) (by omega)) (by omega) rfl)
            | (go_round
               case rel => exact ⟨k + 1, u + b.toNat % 128 * 128 ^ k, by omega, by omega, by go_num, by rw [OO.out (by omega)], OU.out (by omega), by rw [HG.out, HD.out, getF_on (by omega) (by omega)]⟩
               case measure => simp [intOf]; omega)
      · go_wp2
        all_goals
          go_ret3
          exact ret_gv 0 0 9 (by rw [HG.out, List.drop_eq_nil_of_le (by rw [HL.out]; omega)]; rfl) rfl rfl rfl
theorem Get_ok {D : ByteArray} {x m : Nat} (w : World) (hs : D.size ≤ maxLen) (h : getL D.data.toList = (x, m, 0)) : Calls Try.prog 20 #[.string D] w (Ret (.tuple #[.int .u64 (x : Int), .int .i64 (m : Int), .int .i64 0]) w) := by
  have := Get_any D w hs
  rw [h] at this
  exact this
theorem Get_form {D : ByteArray} (w : World) (hs : D.size ≤ maxLen) (h : getL D.data.toList = (0, 0, 3)) : Calls Try.prog 20 #[.string D] w (Ret (.tuple #[.int .u64 0, .int .i64 0, .int .i64 3]) w) := by
  have := Get_any D w hs
  rw [h] at this
  exact this
theorem Get_more {D : ByteArray} (w : World) (hs : D.size ≤ maxLen) (h : getL D.data.toList = (0, 0, 9)) : Calls Try.prog 20 #[.string D] w (Ret (.tuple #[.int .u64 0, .int .i64 0, .int .i64 9]) w) := by
  have := Get_any D w hs
  rw [h] at this
  exact this
end Go.Proofs.Ytbicmnbmkaffeaa
