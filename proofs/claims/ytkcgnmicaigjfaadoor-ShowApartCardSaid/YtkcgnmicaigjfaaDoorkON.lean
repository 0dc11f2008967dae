/- num.Value, num.Signed, num.Text. -/
import Derived.Test.YtkcgnmicaigjfaaDoorM0
import Derived.Test.YtkcgnmicaigjfaaDoorS
import Derived.Test.YtkcgnmicaigjfaaDoorShelf
import Derived.Lib.Strings
import Derived.Laws.RangeString
import Derived.Laws.RangeAny
import Derived.Laws.Runes
import Derived.Shelf.Spec.BitsCarry
import Derived.Outline
import Derived.WalkMore
import Derived.ScopeJumps
import Derived.Lib.AppendIntMem
import Derived.WalkSmall
namespace Go.Proofs.YtkcgnmicaigjfaaDoor
set_option linter.unusedVariables false
set_option linter.unusedSimpArgs false
open Go.RowKit Go.Sort


/-- What a byte is worth as a digit; 16, if it is none. -/
def digB (c : UInt8) : Nat := if 48 ≤ c.toNat ∧ c.toNat ≤ 57 then c.toNat - 48 else if 97 ≤ c.toNat ∧ c.toNat ≤ 102 then c.toNat - 87 else if 65 ≤ c.toNat ∧ c.toNat ≤ 70 then c.toNat - 55 else 16
theorem digB_le (c : UInt8) : digB c ≤ 16 := by unfold digB; (repeat' split) <;> omega
theorem digB_ascii {c : UInt8} (h : digB c < 16) : c.toNat < 128 := by
  unfold digB at h
  (repeat' split at h) <;> omega
def digR (r : Nat) : Nat := if 48 ≤ r ∧ r ≤ 57 then r - 48 else if 97 ≤ r ∧ r ≤ 102 then r - 87 else if 65 ≤ r ∧ r ≤ 70 then r - 55 else 16
theorem digR_high {r : Nat} (h : 128 ≤ r) : digR r = 16 := by unfold digR; rw [if_neg (by omega), if_neg (by omega), if_neg (by omega)]
theorem digB_high {c : UInt8} (h : 128 ≤ c.toNat) : digB c = 16 := digR_high h
def okL (b : Nat) (l : List UInt8) : Bool := l.all fun c => decide (digB c < b)
theorem okL_cons (b : Nat) (c : UInt8) (l : List UInt8) : okL b (c :: l) = (decide (digB c < b) && okL b l) := rfl
def vf (b : Nat) : List UInt8 → Nat → Option Nat
  | [], v => some v
  | c :: r, v => if v * b + digB c < 18446744073709551616 then vf b r (v * b + digB c) else none
def valD (b : Nat) (l : List UInt8) : Int × Int :=
  if l = [] ∨ okL b l = false then (0, 3) else match vf b l 0 with
    | some v => ((v : Int), 0)
    | none => (0, 4)
def valS (l : List UInt8) : Int × Int := if Lib.hasPrefix l [48, 120] = true then valD 16 (l.drop 2) else valD 10 l
theorem valD_bad {b : Nat} {l : List UInt8} (h : l = [] ∨ okL b l = false) : valD b l = (0, 3) := by unfold valD; rw [if_pos h]
theorem valD_some {b v : Nat} {l : List UInt8} (h : ¬ (l = [] ∨ okL b l = false)) (e : vf b l 0 = some v) : valD b l = ((v : Int), 0) := by unfold valD; rw [if_neg h, e]
theorem valD_none {b : Nat} {l : List UInt8} (h : ¬ (l = [] ∨ okL b l = false)) (e : vf b l 0 = none) : valD b l = (0, 4) := by unfold valD; rw [if_neg h, e]
theorem vf_step {b v : Nat} {c : UInt8} {r : List UInt8} (h : v * b + digB c < 18446744073709551616) : vf b (c :: r) v = vf b r (v * b + digB c) := by rw [vf, if_pos h]
theorem vf_stop {b v : Nat} {c : UInt8} {r : List UInt8} (h : ¬ v * b + digB c < 18446744073709551616) : vf b (c :: r) v = none := by rw [vf, if_neg h]
theorem okL_drop {b : Nat} {l : List UInt8} (h : okL b l = true) (k : Nat) (hk : k < l.length) : digB l[k] < b := by
  unfold okL at h
  rw [List.all_eq_true] at h
  exact of_decide_eq_true (h _ (List.getElem_mem hk))
theorem bytes_drop (D : ByteArray) (pos : Nat) (h : pos < D.size) : D.data.toList.drop pos = D[pos] :: D.data.toList.drop (pos + 1) := by
  rw [List.drop_eq_getElem_cons (by simpa using h)]; rfl
theorem bytes_len (D : ByteArray) : D.data.toList.length = D.size := Array.length_toList

/-- Signed, Of, Sum. -/
def signS (m : Bool) (v : Int) : Int × Int := if m = true then (if v ≤ 9223372036854775808 then (-v, 0) else (0, 4)) else if v ≤ 9223372036854775807 then (v, 0) else (0, 4)
def farS (n : Int) : Int := if n < 0 then -n else n
def sumS (a n : Int) : Int × Int := if 0 ≤ a + n ∧ a + n ≤ 18446744073709551615 then (a + n, 0) else (0, 4)


theorem width_one (D : ByteArray) (pos : Nat) (h : pos < D.size) (hd : digB D[pos] < 16) : (Utf8.decode D pos).2 = 1 := by
  rw [decode_ascii D pos h (digB_ascii hd)]

theorem nRetB_two {k l : IntKind} {a b : Int} {p : Int × Int} {w w' : World} (h : p = (a, b)) (hb : Below w.heap.size w w') : RetB (two k l p) w (.returned (.tuple #[.int k a, .int l b])) w' := by subst h; exact ⟨rfl, hb⟩
theorem trim_list (l : List UInt8) (h : Lib.hasPrefix l [48, 120] = true) : Lib.trimPrefix l [48, 120] = l.drop 2 := by
  unfold Lib.trimPrefix
  first | (rw [if_pos h]; rfl) | simp [h]
/-- What stands where Value leaves its loop by a jump. -/
def Jmp (w : World) (a : Act) (w' : World) : Prop := Below w.heap.size w w' ∧ ∃ (u0 u1 u2 u3 u4 u5 u6 u7 u8 u9 u10 u11 u12 u13 u14 u15 u16 u17 u18 u19 u20 u21 u22 u23 u24 u25 u26 u27 u28 u29 u30 u31 u32 u33 u34 u35 u36 u37 u38 u39 u40 u41 u42 u43 u44 u45 u46 u47 u48 u49 u50 u51 u52 : Value), a = { tmps := #[u0, u1, u2, u3, u4, u5, u6, u7, u8, u9, u10, u11, u12, u13, u14, u15, u16, u17, u18, u19, u20, u21, u22, u23, u24, u25, u26, u27, u28, u29, u30, u31, u32, u33, u34, u35, u36, u37, u38, u39, u40, u41, u42, u43, u44, u45, u46, u47, u48, u49, u50, u51, u52], defers := [] }
def VRel (b : Nat) (D : ByteArray) (o : Option Nat) (w1 : World) (x : Value) (wr : World) : Prop :=
  ∃ pos n : Nat, pos ≤ D.size ∧ wr = w1.iter D pos ∧ x = .int .u64 n ∧ n < 18446744073709551616 ∧ vf b (D.data.toList.drop pos) n = o

theorem ret_bi {k : IntKind} {x : Bool} {a b : Int} {w : World} (h : a = b) : Ret (.tuple #[.bool x, .int k b]) w (.returned (.tuple #[.bool x, .int k a])) w := by subst h; exact ⟨rfl, rfl⟩
theorem signS1 {v : Int} (h : v ≤ 9223372036854775808) : signS true v = (-v, 0) := by unfold signS; rw [if_pos rfl, if_pos h]
theorem signS2 {v : Int} (h : ¬ v ≤ 9223372036854775808) : signS true v = (0, 4) := by unfold signS; rw [if_pos rfl, if_neg h]
theorem signS3 {v : Int} (h : v ≤ 9223372036854775807) : signS false v = (v, 0) := by unfold signS; rw [if_neg (by decide), if_pos h]
theorem signS4 {v : Int} (h : ¬ v ≤ 9223372036854775807) : signS false v = (0, 4) := by unfold signS; rw [if_neg (by decide), if_neg h]
theorem neg_wrap {v : Int} (h0 : 0 ≤ v) (h : v ≤ 9223372036854775808) : IntKind.i64.wrap (IntKind.u64.wrap (-v)) = -v := by rw [IntKind.wrap_u64, IntKind.wrap_i64]; omega

abbrev Pow10 (w : World) : Prop := Lib.TabIs Tryd.prog w "internal/strconv.uint64pow10" .u64 Lib.pow10Tab
theorem arr24 : Tryd.prog.arrayLen 93 = 24 := by kernel_rfl
theorem arr24e : Tryd.prog.elem 93 = 5 := by kernel_rfl

set_option maxHeartbeats 1600000 in
set_option maxRecDepth 100000 in
theorem fmt10_any (u : Nat) (w : World) (hu64 : u < 18446744073709551616) (hT : Pow10 w) :
    Calls Tryd.prog 45 #[.int .u64 u, .int .i64 10] w (RetB (.string ⟨(Lib.decDigits u).toArray⟩) w) := by
  by_cases hs : u < 100
  · have HS : Hid (∀ w, Calls Tryd.prog 55 #[.int .i64 u] w (Ret (.string ⟨(Lib.decDigits u).toArray⟩) w)) := Lib.hid fun w => (Tryd.internal_strconv_small u hs w).mono fun e w' h => ⟨h.1, h.2.symm⟩
    clear hT
    go_enter Tryd.func45, Tryd.ntmps45
    go_wp2_with (first | (go_at_call 55; ((with_reducible refine (HS.out _).mono ?_); rintro e w' ⟨rfl, rfl⟩)))
    go_ret
    exact ⟨rfl, Below.refl _ _⟩
  · have hu1 : 1 ≤ u := by omega
    have hnd20 : Lib.nDigits u ≤ 20 := by have := Lib.numDigits_eq u hu1 hu64; split at this <;> omega
    have hsl : ∀ W, (Instr.sliceAt 93 (.pointer (some ⟨w.heap.size, 0, none⟩)) none (some (.int .i64 (Lib.nDigits u : Int))) none).run Tryd.prog W = .ok (.slice (some ⟨w.heap.size, 0, none⟩) (Lib.nDigits u) 24) W := fun W => by
      rw [run_sliceAt_array_h W 93 ⟨w.heap.size, 0, none⟩ (by kernel_rfl) .i64 (Lib.nDigits u : Int) (by omega) (by rw [arr24]; omega)]
      rw [arr24]; rfl
    have hH0 := Lib.holds_zero0 w 93 (Lib.nDigits u) (by omega)
    have hfmt := Tryd.internal_strconv_formatBase10 w.heap.size 0 24 u (Array.replicate (Lib.nDigits u) 0) (w.alloc (.cells Lib.zeros24 93)) hH0 (by rw [Array.size_replicate]; exact Lib.lt_pow_nDigits u) hu64 (by rw [Array.size_replicate]; omega)
    rw [Array.size_replicate] at hfmt
    have HH0 := Lib.hid hH0
    have HF := Lib.hid hfmt
    have HN : Hid (∀ w, Pow10 w → Calls Tryd.prog 56 #[.int .u64 u] w (Ret (.int .i64 (Lib.nDigits u : Nat)) w)) := Lib.hid fun w h => (Tryd.internal_strconv_numDigits u hu1 hu64 w h).mono fun e w' h => ⟨h.1, h.2.symm⟩
    have HT := Lib.hid hT
    have hu100 : 100 ≤ u := by omega
    clear hH0 hfmt hT hs hu1
    go_enter Tryd.func45, Tryd.ntmps45
    go_wp2_with (first | (go_at_call 56; ((with_reducible refine (HN.out _ (Lib.tabIs_alloc HT.out _)).mono ?_); rintro e w' ⟨rfl, rfl⟩)))
    go_at_call 57
    refine HF.out.mono ?_
    rintro e w' ⟨rfl, k, v', dk, rfl, hF⟩
    have hcv : (convert 38 9 (.slice (some ⟨w.heap.size, 0, none⟩) (Lib.nDigits u) 24)).run Tryd.prog ((putRow (fun (b : UInt8) => Value.int .u8 (b.toNat : Int)) (w.alloc (.cells Lib.zeros24 93)) w.heap.size 0 dk).drewN k) = .ok (.string ⟨(Lib.decDigits u).toArray⟩) ((putRow (fun (b : UInt8) => Value.int .u8 (b.toNat : Int)) (w.alloc (.cells Lib.zeros24 93)) w.heap.size 0 dk).drewN k) := by
      have h := run_convert_bytes_back (P := Tryd.prog) ((putRow (fun (b : UInt8) => Value.int .u8 (b.toNat : Int)) (w.alloc (.cells Lib.zeros24 93)) w.heap.size 0 dk).drewN k) 38 9 5 ⟨w.heap.size, 0, none⟩ 24 (Lib.decDigits u) Tryd.underlying38 Tryd.underlying5 Tryd.underlying9 (fun j hj => by
        rw [Lib.row_is_numeral hF j hj, Lib.add_plain, World.cell?_drewN]
        exact cell?_putRow (fun (b : UInt8) => Value.int .u8 (b.toNat : Int)) _ w.heap.size 0 _ dk HH0.out (by rw [hF.size, Array.size_replicate]) j (by rw [hF.size]; rw [Lib.decDigits_length] at hj; exact hj))
      rw [Lib.decDigits_length] at h
      exact h
    have hnx2 : Below w.heap.size w ((putRow (fun (b : UInt8) => Value.int .u8 (b.toNat : Int)) (w.alloc (.cells Lib.zeros24 93)) w.heap.size 0 dk).drewN k) := by
      obtain ⟨os, eo⟩ := Lib.fin_at w (.cells Lib.zeros24 93) dk k 0
      rw [eo]; exact Lib.below_grow _ w (Nat.le_refl _) k os
    have HB2 := Lib.hid hnx2
    clear hnx2
    go_wp2
    go_ret
    exact ⟨rfl, HB2.out⟩

/-- A digit's byte; the digits of a number to a base, the highest one first. -/
def dgB (d : Nat) : UInt8 := UInt8.ofNat (if d < 10 then 48 + d else 87 + d)
def digL (b u : Nat) : List UInt8 := if h : u < b ∨ b < 2 then [dgB u] else digL b (u / b) ++ [dgB (u % b)]
termination_by u
decreasing_by exact Nat.div_lt_self (by omega) (by omega)
theorem digL_small {b u : Nat} (h : u < b) : digL b u = [dgB u] := by rw [digL, dif_pos (.inl h)]
theorem digL_big {b u : Nat} (h : b ≤ u) (hb : 2 ≤ b) : digL b u = digL b (u / b) ++ [dgB (u % b)] := by rw [digL, dif_neg (by omega)]
theorem decDigits_digL (u : Nat) : Lib.decDigits u = digL 10 u := by
  induction u using Nat.strongRecOn with
  | _ u ih =>
    by_cases h : u < 10
    · rw [digL_small h, Lib.decDigits, dif_pos h]; simp [dgB, h]
    · rw [digL_big (by omega) (by omega), Lib.decDigits, dif_neg h, ih (u / 10) (by omega)]
      have : u % 10 < 10 := Nat.mod_lt _ (by decide)
      simp [dgB, this]

def textB (u : Nat) : ByteArray := ⟨(digL 10 u).toArray⟩
theorem digL_len (b n : Nat) (hb : 2 ≤ b) (u : Nat) (h : u < b ^ (n + 1)) : (digL b u).length ≤ n + 1 := by
  induction n generalizing u with
  | zero => rw [digL_small (by simpa using h)]; simp
  | succ n ih =>
    by_cases c : u < b
    · rw [digL_small c]; simp
    · rw [digL_big (by omega) hb, List.length_append, List.length_singleton]
      have := ih (u / b) (Nat.div_lt_of_lt_mul (by rw [Nat.pow_succ] at h; rwa [Nat.mul_comm]))
      omega
theorem dig10_len (u : Nat) (h : u < 18446744073709551616) : (digL 10 u).length ≤ 20 := digL_len 10 19 (by decide) u (Nat.lt_of_lt_of_le h (by decide))
theorem Text_any (u : Nat) (w : World) (hu : u < 18446744073709551616) (hT : Pow10 w) :
    Calls Tryd.prog 52 #[.int .u64 u] w (RetB (.string (textB u)) w) := by
  have HF : Hid (Calls Tryd.prog 45 #[.int .u64 u, .int .i64 10] w (RetB (.string (textB u)) w)) := Lib.hid (by
    have := fmt10_any u w hu hT
    rwa [decDigits_digL] at this)
  clear hT
  have HG : Hid (Calls Tryd.prog 32 #[.int .u64 u, .int .i64 10] w (RetB (.string (textB u)) w)) := Lib.hid (by
    go_enter Tryd.func32, Tryd.ntmps32
    go_wp2_with fail
    refine HF.out.mono ?_
    rintro e w1 ⟨rfl, hb⟩
    have HB := Lib.hid hb
    clear hb
    go_wp2
    go_ret
    exact ⟨rfl, HB.out⟩)
  go_enter Tryd.func52, Tryd.ntmps52
  go_wp2_with fail
  refine HG.out.mono ?_
  rintro e w1 ⟨rfl, hb⟩
  have HB := Lib.hid hb
  clear hb
  go_wp2
  go_ret
  exact ⟨rfl, HB.out⟩
end Go.Proofs.YtkcgnmicaigjfaaDoor
