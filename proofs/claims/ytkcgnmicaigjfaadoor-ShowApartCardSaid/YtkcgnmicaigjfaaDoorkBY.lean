/- What the small functions of masks answer. What the loops of masks answer. Sizes, rows of ones, trailing zeros. Trailing zeros, by the library's table; how much a part is turned. The closure that tells sizes; Size. -/
import Derived.Test.YtkcgnmicaigjfaaDoorkBX
import Derived.Test.YtkcgnmicaigjfaaDoorkRK
import Derived.Shelf.Spec.TrailingZeros
import Derived.Deep.QuietTactic
import Derived.BigQuiet
namespace Go.Proofs.YtkcgnmicaigjfaaDoor
set_option linter.unusedVariables false
set_option linter.unusedSimpArgs false
open Go.RowKit

theorem bits_and_u64 (a b : Nat) (ha : a < 18446744073709551616) (hb : b < 18446744073709551616) : bits .and .u64 (a : Int) (b : Int) = ((a &&& b : Nat) : Int) := bits_and_u64_nat a b ha hb
theorem and_i64_127 (x : Nat) (hx : x < 9223372036854775808) : bits .and .i64 (x : Int) 127 = ((x % 128 : Nat) : Int) := by
  have h1 : (BitVec.ofInt 64 (x : Int)).toNat = x := by
    rw [BitVec.ofInt_natCast, BitVec.toNat_ofNat]; exact Nat.mod_eq_of_lt (by omega)
  have h2 : (BitVec.ofInt 64 127).toNat = 127 := by decide
  have e : (BitVec.ofInt 64 (x : Int) &&& BitVec.ofInt 64 127).toNat = x % 128 := by
    rw [BitVec.toNat_and, h1, h2]; exact Nat.and_two_pow_sub_one_eq_mod x 7
  show IntKind.i64.wrap ((BitVec.ofInt 64 (x : Int) &&& BitVec.ofInt 64 127).toNat : Int) = _
  rw [e]
  simp only [IntKind.wrap_i64]
  omega
def upperS (s : Int) : Int := if s = 64 then 1 else 0
def leadS (s : Int) : Int := if s = 64 then 0 else 64 - 2 * s
theorem upper_any (s : Int) (w : World) : Calls Tryd.prog 92 #[.int .i64 s] w (Ret (.int .i64 (upperS s)) w) := by
  unfold upperS
  by_cases c : s = 64
  · rw [if_pos c]
    go_enter Tryd.func92, Tryd.ntmps92
    go_wp2
    go_ret
    exact ret_int rfl
  · rw [if_neg c]
    go_enter Tryd.func92, Tryd.ntmps92
    go_wp2
    go_ret
    exact ret_int rfl
theorem lead_any (s : Int) (w : World) (h : 2 ≤ s) (h2 : s ≤ 64) : Calls Tryd.prog 91 #[.int .i64 s] w (Ret (.int .i64 (leadS s)) w) := by
  unfold leadS
  by_cases c : s = 64
  · rw [if_pos c]
    go_enter Tryd.func91, Tryd.ntmps91
    go_wp2
    go_ret
    exact ret_int rfl
  · rw [if_neg c]
    go_enter Tryd.func91, Tryd.ntmps91
    go_wp2
    go_ret
    exact ret_int rfl

set_option maxHeartbeats 400000 in
theorem ones_any (x : Nat) (w : World) (hx : x < 18446744073709551616) :
    Calls Tryd.prog 83 #[.int .u64 x] w (Ret (.int .i64 (pcN x 64)) w) := by
  go_enter Tryd.func83, Tryd.ntmps83
  go_wp2
  go_ret
  refine ret_int ?_
  obtain ⟨t0, t1, t2, t3, t4, t5, t6, t7, k0, k1, k2, k3, k4, k5, k6, k7, he, hp, l1, l2⟩ := swar x hx
  have e1 : IntKind.u64.wrap (bits BinOp.and IntKind.u64 ((x : Int) / 2) 6148914691236517205 + bits BinOp.and IntKind.u64 (x : Int) 6148914691236517205) = ((sw1 x : Nat) : Int) := by
    have a1 := bits_and_u64 (x / 2) 6148914691236517205 (by omega) (by omega)
    have a2 := bits_and_u64 x 6148914691236517205 (by omega) (by omega)
    simp only [Int.natCast_ediv, Int.cast_ofNat_Int] at a1 a2
    rw [a1, a2, IntKind.wrap_u64]
    unfold sw1 at l1 ⊢; omega
  have e2 : IntKind.u64.wrap (bits BinOp.and IntKind.u64 (((sw1 x : Nat) : Int) / 4) 3689348814741910323 + bits BinOp.and IntKind.u64 ((sw1 x : Nat) : Int) 3689348814741910323) = ((sw2 (sw1 x) : Nat) : Int) := by
    have a1 := bits_and_u64 (sw1 x / 4) 3689348814741910323 (by omega) (by omega)
    have a2 := bits_and_u64 (sw1 x) 3689348814741910323 (by omega) (by omega)
    simp only [Int.natCast_ediv, Int.cast_ofNat_Int] at a1 a2
    rw [a1, a2, IntKind.wrap_u64]
    unfold sw2 at l2 ⊢; omega
  have e3 : bits BinOp.and IntKind.u64 (IntKind.u64.wrap (((sw2 (sw1 x) : Nat) : Int) / 16 + ((sw2 (sw1 x) : Nat) : Int))) 1085102592571150095 = ((sw3 (sw2 (sw1 x)) : Nat) : Int) := by
    have a1 := bits_and_u64 (sw2 (sw1 x) / 16 + sw2 (sw1 x)) 1085102592571150095 (by omega) (by omega)
    rw [IntKind.wrap_u64, show (((sw2 (sw1 x) : Nat) : Int) / 16 + ((sw2 (sw1 x) : Nat) : Int)) % 18446744073709551616 = ((sw2 (sw1 x) / 16 + sw2 (sw1 x) : Nat) : Int) from by omega]
    exact a1
  rw [e1, e2, e3, he, hp]
  clear e1 e2 e3 hp
  obtain ⟨a, b, y, ha, ha2, hb, hb2, hy, hy2, hr⟩ := swar_end t0 t1 t2 t3 t4 t5 t6 t7 _ k0 k1 k2 k3 k4 k5 k6 k7 rfl
  rw [ha, show IntKind.u64.wrap (a : Int) = a from by rw [IntKind.wrap_u64]; omega, hb, show IntKind.u64.wrap (b : Int) = b from by rw [IntKind.wrap_u64]; omega, hy,
    show IntKind.u64.wrap (y : Int) = y from by rw [IntKind.wrap_u64]; omega, show wrap64 (y : Int) = y from by unfold wrap64; omega, and_i64_127 y (by omega), hr]

theorem agN_self (p s : Nat) (h : p < 2 ^ s) : agN p s s = p := by
  apply Nat.eq_of_testBit_eq
  intro j
  rw [agN_bit]
  by_cases c : j < s
  · simp [c, Nat.mod_eq_of_lt c]
  · have := Nat.testBit_lt_two_pow (x := p) (i := j) (Nat.lt_of_lt_of_le h (Nat.pow_le_pow_right (by decide) (by omega)))
    simp [c, this]
theorem agN_double (p s m : Nat) (h : s ∣ m) : agN p s m ||| (agN p s m * 2 ^ m) = agN p s (2 * m) := by
  apply Nat.eq_of_testBit_eq
  intro j
  rw [Nat.testBit_or, Nat.mul_comm (agN p s m), Nat.testBit_two_pow_mul, agN_bit, agN_bit, agN_bit]
  by_cases c : m ≤ j
  · have e : (j - m) % s = j % s := by
      obtain ⟨q, rfl⟩ := h
      obtain ⟨r, rfl⟩ := Nat.le.dest c
      rw [Nat.add_sub_cancel_left, Nat.add_comm, Nat.add_mul_mod_self_left]
    have e2 : (j - m < m) = (j < 2 * m) := by simp only [eq_iff_iff]; omega
    rw [e]
    simp [c, Nat.not_lt.2 c, e2]
  · have c1 : j < m := by omega
    have c2 : j < 2 * m := by omega
    simp [c, c1, c2]
theorem or_double (p s m : Nat) (h : s ∣ m) (hm : 2 * m ≤ 64) :
    bits BinOp.or IntKind.u64 (agN p s m : Int) (IntKind.u64.wrap ((agN p s m : Int) * 2 ^ m)) = ((agN p s (2 * m) : Nat) : Int) := by
  have l1 := agN_lt p s m
  have l2 : agN p s m * 2 ^ m < 18446744073709551616 := by
    have h1 : agN p s m * 2 ^ m < 2 ^ m * 2 ^ m := Nat.mul_lt_mul_of_pos_right l1 (Nat.two_pow_pos m)
    rw [← Nat.pow_add] at h1
    exact Nat.lt_of_lt_of_le h1 (Nat.le_trans (Nat.pow_le_pow_right (by decide) (show m + m ≤ 64 by omega)) (by decide))
  have l3 : agN p s m < 18446744073709551616 := Nat.lt_of_lt_of_le l1 (Nat.le_trans (Nat.pow_le_pow_right (by decide) (show m ≤ 64 by omega)) (by decide))
  rw [show ((agN p s m : Int) * 2 ^ m) = ((agN p s m * 2 ^ m : Nat) : Int) from by rw [Int.natCast_mul, pow_cast], IntKind.wrap_u64,
    show ((agN p s m * 2 ^ m : Nat) : Int) % 18446744073709551616 = ((agN p s m * 2 ^ m : Nat) : Int) from by omega, bits_or_u64_nat _ _ l3 l2, agN_double p s m h]

set_option maxHeartbeats 400000 in
theorem repeat_any (p s : Nat) (w : World) (hs : isSz s = true) (hp : p < 2 ^ s) :
    Calls Tryd.prog 81 #[.int .u64 p, .int .i64 s] w (Ret (.int .u64 (agN p s 64 : Nat)) w) := by
  have hl := isSz_le hs
  have E0 := Lib.hid (agN_self p s hp)
  clear hp
  go_enter Tryd.func81, Tryd.ntmps81
  go_wp2
  go_loop [1, 5] (fun i v => ∃ m : Nat, isSz m = true ∧ s ∣ m ∧ i = .int .i64 m ∧ v = .int .u64 (agN p s m : Nat)) (fun i _ => 64 - (intOf i).toNat)
  case atStart => exact ⟨s, hs, Nat.dvd_refl s, rfl, by rw [E0.out]⟩
  case round =>
    obtain ⟨m, hm, hd, rfl, rfl⟩ := hrel
    have hm2 := isSz_le hm
    have H0 := Lib.hid hm
    have HD := Lib.hid hd
    clear hd hm
    by_cases hlt : m < 64
    · have h32 : m ≤ 32 := by have := H0.out; simp [isSz] at this; omega
      have HE := Lib.hid (or_double p s m HD.out (by omega))
      have l1 : agN p s m < 18446744073709551616 := Nat.lt_of_lt_of_le (agN_lt p s m) (Nat.le_trans (Nat.pow_le_pow_right (by decide) (show m ≤ 64 by omega)) (by decide))
      go_wp2
      go_round
      case rel => exact ⟨2 * m, by have := H0.out; simp [isSz] at this ⊢; omega, Nat.dvd_trans HD.out (Nat.dvd_mul_left m 2), by go_num, by rw [HE.out]⟩
      case measure => simp [intOf]; omega
    · obtain rfl : m = 64 := by omega
      go_wp2
      go_ret
      exact ret_int rfl

def pz (v s : Nat) : Bool := agN (v % 2 ^ s) s 64 == v
structure LeastSz (v m : Nat) : Prop where
  size : isSz m = true
  has : pz v m = true
  least : ∀ t : Nat, isSz t = true → t < m → pz v t = false
theorem LeastSz.uniq {v m n : Nat} (h : LeastSz v m) (k : LeastSz v n) : m = n := by
  rcases Nat.lt_trichotomy m n with c | c | c
  · have := k.least m h.size c; rw [h.has] at this; cases this
  · exact c
  · have := h.least n k.size c; rw [k.has] at this; cases this
def sizeL (v : Nat) : Nat := if pz v 2 then 2 else if pz v 4 then 4 else if pz v 8 then 8 else if pz v 16 then 16 else if pz v 32 then 32 else 64
theorem pz64 (v : Nat) (hv : v < 18446744073709551616) : pz v 64 = true := by
  unfold pz
  rw [Nat.mod_eq_of_lt (show v < 2 ^ 64 from hv), agN_self v 64 hv, beq_self_eq_true]
theorem isSz_nat {t : Nat} (h : isSz t = true) : t = 2 ∨ t = 4 ∨ t = 8 ∨ t = 16 ∨ t = 32 ∨ t = 64 := by simp [isSz] at h; omega
theorem sizeL_least (v : Nat) (hv : v < 18446744073709551616) : LeastSz v (sizeL v) := by
  have h64 := pz64 v hv
  unfold sizeL
  cases h2 : pz v 2
  · cases h4 : pz v 4
    · cases h8 : pz v 8
      · cases h16 : pz v 16
        · cases h32 : pz v 32
          · exact ⟨rfl, h64, fun t ht hl => by rcases isSz_nat ht with rfl | rfl | rfl | rfl | rfl | rfl <;> first | assumption | (simp at hl)⟩
          · exact ⟨rfl, h32, fun t ht hl => by rcases isSz_nat ht with rfl | rfl | rfl | rfl | rfl | rfl <;> first | assumption | (simp at hl)⟩
        · exact ⟨rfl, h16, fun t ht hl => by rcases isSz_nat ht with rfl | rfl | rfl | rfl | rfl | rfl <;> first | assumption | (simp at hl)⟩
      · exact ⟨rfl, h8, fun t ht hl => by rcases isSz_nat ht with rfl | rfl | rfl | rfl | rfl | rfl <;> first | assumption | (simp at hl)⟩
    · exact ⟨rfl, h4, fun t ht hl => by rcases isSz_nat ht with rfl | rfl | rfl | rfl | rfl | rfl <;> first | assumption | (simp at hl)⟩
  · exact ⟨rfl, h2, fun t ht hl => by rcases isSz_nat ht with rfl | rfl | rfl | rfl | rfl | rfl <;> first | assumption | (simp at hl)⟩
theorem low_nat (v s : Nat) (hs : 1 ≤ s) (hv : v < 18446744073709551616) : low v s = ((v % 2 ^ s : Nat) : Int) := by
  unfold low
  rw [if_neg (by omega)]
  by_cases c : 64 ≤ (s : Int)
  · rw [if_pos c, Nat.mod_eq_of_lt (Nat.lt_of_lt_of_le hv (Nat.le_trans (by decide) (Nat.pow_le_pow_right (by decide) (show 64 ≤ s by omega))))]
  · rw [if_neg c, Int.toNat_natCast, Int.natCast_emod, pow_cast]
theorem low_natC (v s : Nat) (w : World) (hs : 1 ≤ s) (hv : v < 18446744073709551616) :
    Calls Tryd.prog 64 #[.int .u64 v, .int .i64 s] w (Ret (.int .u64 (v % 2 ^ s : Nat)) w) := by
  have := low_any v s w (by omega) (by omega)
  rwa [low_nat v s hs hv] at this

theorem row_step (k : Nat) (hk : k ≤ 63) : IntKind.u64.wrap (((2 ^ k - 1 : Nat) : Int) + 2 ^ k) = ((2 ^ (k + 1) - 1 : Nat) : Int) := by
  have h := sum_step (2 ^ k - 1) k (by have := Nat.two_pow_pos k; omega) hk
  rw [h, Nat.pow_succ]; have := Nat.two_pow_pos k; congr 1; omega
theorem pow_lt64 (k : Nat) (hk : k ≤ 64) : 2 ^ k - 1 < 18446744073709551616 := by
  have := Nat.pow_le_pow_right (show 0 < 2 by decide) hk
  have := Nat.two_pow_pos k
  omega

set_option maxHeartbeats 400000 in
theorem tz_any (x : Nat) (w : World) (hx : x < 18446744073709551616) (hT : TabAt 7 Lib.deBruijn64tab w) :
    Calls Tryd.prog 82 #[.int .u64 x] w (Ret (.int .i64 (Lib.ctz 64 x)) w) := by
  by_cases hx0 : x = 0
  · subst hx0
    go_enter Tryd.func82, Tryd.ntmps82
    go_wp2
    go_ret
    exact ret_int rfl
  · obtain ⟨hlow, hk⟩ := Lib.lowest_bit 64 x hx0 hx
    obtain ⟨hi, htab⟩ := Lib.deBruijn64_at _ hk
    have hcell := hT _ hi
    rw [htab] at hcell
    have key := tz64_key x _ hx hx0 hlow
    obtain ⟨k, hkk⟩ : ∃ k, k = Lib.ctz 64 x := ⟨_, rfl⟩
    obtain ⟨idx, hidx⟩ : ∃ i, i = 2 ^ Lib.ctz 64 x * 285870213051353865 % 18446744073709551616 / 288230376151711744 := ⟨_, rfl⟩
    rw [← hidx] at hcell key hi
    rw [← hkk] at hcell hk ⊢
    clear hT hlow htab hidx hkk
    have hi2 : idx < 64 := hi
    have hx1 : ((x : Int) == 0) = false := by rw [beq_eq_false_iff_ne]; omega
    go_enter Tryd.func82, Tryd.ntmps82
    go_wp2_with (simp only [key])
    go_ret
    exact ret_int rfl
theorem Ones_any (x : Nat) (w : World) (hx : x < 18446744073709551616) :
    Calls Tryd.prog 66 #[.int .u64 x] w (Ret (.int .i64 (pcN x 64 : Nat)) w) := by
  go_enter Tryd.func66, Tryd.ntmps66
  go_wp2_with (first | (go_at_call 83; refine (ones_any _ _ hx).mono ?_; rintro e w' ⟨rfl, rfl⟩))
  go_ret
  exact ret_int rfl
theorem ctz_le (x : Nat) (hx : x < 18446744073709551616) : Lib.ctz 64 x ≤ 64 := by
  by_cases h : x = 0
  · subst h; decide
  · have := (Lib.lowest_bit 64 x h hx).2; omega
theorem and_one (x : Nat) (hx : x < 18446744073709551616) : bits BinOp.and IntKind.u64 (x : Int) 1 = ((x % 2 : Nat) : Int) := by
  have := and_bit x 0 hx
  simpa using this
theorem xor_max (x : Nat) (hx : x < 18446744073709551616) : bits BinOp.xor IntKind.u64 IntKind.u64.max (x : Int) = ((18446744073709551615 - x : Nat) : Int) := by
  have h1 : (BitVec.ofInt 64 (x : Int)).toNat = x := by
    rw [BitVec.ofInt_natCast, BitVec.toNat_ofNat]; exact Nat.mod_eq_of_lt (by omega)
  have h2 : BitVec.ofInt 64 IntKind.u64.max = BitVec.allOnes 64 := by decide
  have e : (BitVec.ofInt 64 IntKind.u64.max ^^^ BitVec.ofInt 64 (x : Int)).toNat = 18446744073709551615 - x := by
    rw [h2, BitVec.allOnes_xor, BitVec.toNat_not, h1]
  show IntKind.u64.wrap ((BitVec.ofInt 64 IntKind.u64.max ^^^ BitVec.ofInt 64 (x : Int)).toNat : Int) = _
  rw [e, IntKind.wrap_u64]; omega
def turnS (x s : Nat) : Int := if x % 2 = 0 then ((s : Int) - (Lib.ctz 64 x : Nat) % s) % s else (pcN x 64 : Nat) - (Lib.ctz 64 (18446744073709551615 - x) : Nat)

set_option maxHeartbeats 400000 in
theorem turn_any (x s : Nat) (w : World) (hx : x < 18446744073709551616) (h1 : 1 ≤ s) (h2 : s ≤ 64) (hT : TabAt 7 Lib.deBruijn64tab w) :
    Calls Tryd.prog 65 #[.int .u64 x, .int .i64 s] w (Ret (.int .i64 (turnS x s)) w) := by
  have HT := Lib.hid hT
  have a1 := and_one x hx
  clear hT
  unfold turnS
  by_cases c : x % 2 = 0
  · rw [if_pos c]
    have hb : (bits BinOp.and IntKind.u64 (x : Int) 1 == 0) = true := by rw [a1, c]; rfl
    clear a1 c
    obtain ⟨z, hz, hzl⟩ : ∃ z : Nat, z = Lib.ctz 64 x ∧ z ≤ 64 := ⟨_, rfl, ctz_le x hx⟩
    have K : Hid (∀ w, TabAt 7 Lib.deBruijn64tab w → Calls Tryd.prog 82 #[.int .u64 x] w (Ret (.int .i64 z) w)) := Lib.hid fun w h => by rw [hz]; exact tz_any x w hx h
    rw [← hz]
    clear hz
    have m1 : 0 ≤ (z : Int) % s := Int.emod_nonneg _ (by omega)
    have m2 : (z : Int) % s < s := Int.emod_lt_of_pos _ (by omega)
    go_enter Tryd.func65, Tryd.ntmps65
    go_wp2_with (first | (go_at_call 82; refine (K.out _ HT.out).mono ?_; rintro e w' ⟨rfl, rfl⟩))
    go_ret
    exact ret_int rfl
  · rw [if_neg c]
    have hb : (bits BinOp.and IntKind.u64 (x : Int) 1 == 0) = false := by rw [a1, show x % 2 = 1 by omega]; rfl
    clear a1 c
    have hy : 18446744073709551615 - x < 18446744073709551616 := by omega
    have hpl := pcN_le x 64
    obtain ⟨y, hye⟩ : ∃ y : Nat, y = 18446744073709551615 - x := ⟨_, rfl⟩
    rw [← hye] at hy ⊢
    have hyl := ctz_le y hy
    have K : Hid (∀ w, TabAt 7 Lib.deBruijn64tab w → Calls Tryd.prog 82 #[.int .u64 (bits BinOp.xor IntKind.u64 IntKind.u64.max (x : Int))] w (Ret (.int .i64 (Lib.ctz 64 y)) w)) := Lib.hid fun w h => by rw [xor_max x hx, ← hye]; exact tz_any y w hy h
    obtain ⟨q, hq⟩ : ∃ q, q = pcN x 64 := ⟨_, rfl⟩
    have KO : Hid (∀ w, Calls Tryd.prog 66 #[.int .u64 x] w (Ret (.int .i64 q) w)) := Lib.hid fun w => by rw [hq]; exact Ones_any x w hx
    obtain ⟨z, hz⟩ : ∃ z, z = Lib.ctz 64 y := ⟨_, rfl⟩
    rw [← hz] at K hyl ⊢
    rw [← hq] at hpl ⊢
    clear hz hq hye
    go_enter Tryd.func65, Tryd.ntmps65
    go_wp2_with (first | (go_at_call 66; refine (KO.out _).mono ?_; rintro e w' ⟨rfl, rfl⟩) | (go_at_call 82; refine (K.out _ HT.out).mono ?_; rintro e w' ⟨rfl, rfl⟩))
    go_ret
    exact ret_int rfl

theorem grownBy_step {w w' : World} {b : Nat} {u : Value} (h : w.grownBy w' (some b)) : w.grownBy (w'.setCell ⟨b, 0, none⟩ u) (some b) :=
  ⟨h.os, h.tape, h.output, by have := h.size; simp [World.setCell]; omega, fun k hk hne => by
    rw [← h.block k hk hne]
    exact Below.heap_setCell _ _ _ _ (by simp at hne ⊢; omega)⟩
abbrev nextV (B : Nat) : Value := .func (Fn.func 89) #[] #[.pointer (some ⟨B, 0, none⟩)]
def Cell1 (w : World) (B : Nat) (m : Int) : Prop := w.heap[B]? = some (.cells #[.int .i64 m] 3 (0, 0))
def CloPost (w : World) (B m : Nat) (e : Ending) (w' : World) : Prop :=
  e = .returned (.int .i64 (if 32 < m then 0 else (m : Int) * 2)) ∧ Cell1 w' B ((m : Int) * 2) ∧ w.grownBy w' (some B)

set_option maxHeartbeats 400000 in
theorem clo_any (m B : Nat) (w : World) (h1 : 1 ≤ m) (h2 : m ≤ 64) (hB : Cell1 w B m) :
    Calls Tryd.prog 89 #[.pointer (some ⟨B, 0, none⟩)] w (CloPost w B m) := by
  unfold Cell1 at hB
  have hlt := lt_of_block hB
  have hc := cell_of_one hB
  have hf := free_of_one hB
  have HB := Lib.hid hB
  clear hB
  by_cases c : 32 < m
  · go_enter Tryd.func89, Tryd.ntmps89
    go_wp2
    go_ret
    exact ⟨by rw [if_pos c]; rfl, one_setCell HB.out, grownBy_step (World.grownBy.refl _ _)⟩
  · go_enter Tryd.func89, Tryd.ntmps89
    go_wp2
    go_ret
    exact ⟨by rw [if_neg c]; rfl, one_setCell HB.out, grownBy_step (World.grownBy.refl _ _)⟩
def SizesPost (w : World) (e : Ending) (w' : World) : Prop := e = .returned (nextV w.heap.size) ∧ w' = w.alloc (.cells #[.int .i64 1] 3)
theorem sizes_any (w : World) : Calls Tryd.prog 80 #[] w (SizesPost w) := by
  go_enter Tryd.func80, Tryd.ntmps80
  go_wp2
  go_ret
  exact ⟨rfl, rfl⟩
end Go.Proofs.YtkcgnmicaigjfaaDoor
