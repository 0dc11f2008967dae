/- operand: names. -/
import Derived.Test.YtkcgnmicaigjfaaDoorkON
import Derived.Test.YtkcgnmicaigjfaaDoorkL
import Derived.Deep.QuietTactic
import Derived.BigQuiet
namespace Go.Proofs.YtkcgnmicaigjfaaDoor
set_option linter.unusedVariables false
set_option linter.unusedSimpArgs false
open Go.ChangeShapes Go.WideShapes Go.Deep Go.RowKit
open Go.ChangeShapes Go.WideShapes Go.Deep Go.RowKit

/-- The digits of a number below 100. -/
def decL (n : Nat) : List UInt8 := if n < 10 then [UInt8.ofNat (48 + n)] else [UInt8.ofNat (48 + n / 10), UInt8.ofNat (48 + n % 10)]
theorem decL_dig {n : Nat} (h : n < 100) : digL 10 n = decL n := by
  unfold decL
  by_cases c : n < 10
  · rw [digL_small c, if_pos c]; unfold dgB; rw [if_pos c]
  · rw [digL_big (by omega) (by decide), digL_small (by omega), if_neg c]
    unfold dgB
    rw [if_pos (by omega), if_pos (by omega)]; rfl
theorem decL_val : ∀ n : Fin 31, valS (decL n.val) = ((n.val : Int), 0) := by decide +kernel
theorem decL_inj : ∀ n m : Fin 31, decL n.val = decL m.val → n = m := by decide +kernel
def regNm (n : Nat) : List UInt8 := 120 :: decL n
abbrev spB : List UInt8 := [115, 112]
abbrev xzB : List UInt8 := [120, 122, 114]
/-- A register's name: its number, whether it is the stack's, and the error. -/
def regL (s : List UInt8) : Int × Bool × Int :=
  if s = spB then (31, true, 0) else if s = xzB then (31, false, 0) else
    match (List.range 31).find? (fun n => decide (s = regNm n)) with
    | some n => ((n : Int), false, 0)
    | none => (0, false, 3)
def regTextL (n : Int) (st : Bool) : List UInt8 × Int :=
  if n < 0 ∨ n > 31 ∨ (st = true ∧ n ≠ 31) then ([], 1) else if st = true then (spB, 0) else if n = 31 then (xzB, 0) else (regNm n.toNat, 0)
theorem find_reg {s : List UInt8} {n : Nat} (hn : n < 31) (h : s = regNm n) : (List.range 31).find? (fun k => decide (s = regNm k)) = some n := by
  subst h
  have hm : n ∈ List.range 31 := List.mem_range.2 hn
  cases hf : (List.range 31).find? (fun k => decide (regNm n = regNm k)) with
  | none => exact absurd (List.find?_eq_none.1 hf n hm) (by simp)
  | some k =>
    have h1 := List.find?_some hf
    have h2 := List.mem_range.1 (List.mem_of_find?_eq_some hf)
    have h3 : regNm n = regNm k := of_decide_eq_true h1
    unfold regNm at h3
    have := decL_inj ⟨n, hn⟩ ⟨k, h2⟩ (List.cons.inj h3).2
    simp only [Fin.mk.injEq] at this
    rw [this]
theorem find_no {s : List UInt8} (h : ∀ n, n < 31 → s ≠ regNm n) : (List.range 31).find? (fun k => decide (s = regNm k)) = none :=
  List.find?_eq_none.2 fun n hn => by simpa using h n (List.mem_range.1 hn)
theorem nm_ne : ∀ n : Fin 31, regNm n.val ≠ spB ∧ regNm n.val ≠ xzB := by decide +kernel
theorem regL_at {s : List UInt8} {n : Nat} (hn : n < 31) (h : s = regNm n) : regL s = ((n : Int), false, 0) := by
  unfold regL
  have := nm_ne ⟨n, hn⟩
  rw [if_neg (by rw [h]; exact this.1), if_neg (by rw [h]; exact this.2), find_reg hn h]
theorem regL_no {s : List UInt8} (h1 : s ≠ spB) (h2 : s ≠ xzB) (h : ∀ n, n < 31 → s ≠ regNm n) : regL s = (0, false, 3) := by
  unfold regL
  rw [if_neg h1, if_neg h2, find_no h]
/-- Registers are told back. -/
theorem regL_cases (s : List UInt8) : (s = spB ∧ regL s = (31, true, 0)) ∨ (s = xzB ∧ regL s = (31, false, 0)) ∨ (∃ n, n < 31 ∧ s = regNm n ∧ regL s = ((n : Int), false, 0)) ∨ (s ≠ spB ∧ s ≠ xzB ∧ (∀ n, n < 31 → s ≠ regNm n) ∧ regL s = (0, false, 3)) := by
  by_cases h1 : s = spB
  · exact .inl ⟨h1, by unfold regL; rw [if_pos h1]⟩
  by_cases h2 : s = xzB
  · exact .inr (.inl ⟨h2, by unfold regL; rw [if_neg h1, if_pos h2]⟩)
  by_cases h3 : ∃ n, n < 31 ∧ s = regNm n
  · obtain ⟨n, hn, hs⟩ := h3
    exact .inr (.inr (.inl ⟨n, hn, hs, regL_at hn hs⟩))
  · have h4 : ∀ n, n < 31 → s ≠ regNm n := fun n hn hs => h3 ⟨n, hn, hs⟩
    exact .inr (.inr (.inr ⟨h1, h2, h4, regL_no h1 h2 h4⟩))
abbrev regV (r : Int × Bool × Int) : Value := .tuple #[.int .i64 r.1, .bool r.2.1, .int .i64 r.2.2]
theorem text_ba {n : Nat} (h : n < 100) : textB n = ⟨(decL n).toArray⟩ := by unfold textB; rw [decL_dig h]
theorem cat_list (a b : ByteArray) : (a ++ b).data.toList = a.data.toList ++ b.data.toList := by
  rw [ByteArray.data_append, Array.toList_append]
set_option maxRecDepth 100000 in
set_option maxHeartbeats 2000000 in
theorem RegText_any (n : Int) (hn : i64ok n) (st : Bool) (w : World) (hT : Pow10 w) : Calls Tryd.prog 50 #[.int .i64 n, .bool st] w (RetB (.tuple #[.string ⟨(regTextL n st).1.toArray⟩, .int .i64 (regTextL n st).2]) w) := by
  by_cases h1 : n < 0
  · have HE : Hid (regTextL n st = ([], 1)) := Lib.hid (by unfold regTextL; rw [if_pos (.inl h1)])
    clear hT
    go_enter Tryd.func50, Tryd.ntmps50
    go_wp2
    go_ret2
    exact ⟨by rw [HE.out]; rfl, Below.refl _ _⟩
  by_cases h2 : n > 31
  · have HE : Hid (regTextL n st = ([], 1)) := Lib.hid (by unfold regTextL; rw [if_pos (.inr (.inl h2))])
    have h2' : (31 : Int) < n := h2
    clear hT h2
    go_enter Tryd.func50, Tryd.ntmps50
    go_wp2
    go_ret2
    exact ⟨by rw [HE.out]; rfl, Below.refl _ _⟩
  have h2' : ¬ (31 : Int) < n := by omega
  cases st
  · by_cases h3 : n = 31
    · subst h3
      have HE : Hid (regTextL 31 false = (xzB, 0)) := Lib.hid (by decide)
      clear hT h1 h2 h2' hn
      go_enter Tryd.func50, Tryd.ntmps50
      go_wp2
      go_ret2
      exact ⟨by rw [HE.out]; rfl, Below.refl _ _⟩
    · obtain ⟨k, hk⟩ : ∃ k : Nat, n = k := ⟨n.toNat, by omega⟩
      subst hk
      have hk31 : k < 31 := by omega
      have HE : Hid (regTextL (k : Int) false = (regNm k, 0)) := Lib.hid (by
        unfold regTextL
        rw [if_neg (by simp; omega), if_neg (by decide), if_neg h3]; simp)
      have HTX := Lib.hid (Text_any k w (by omega) hT)
      rw [text_ba (by omega)] at HTX
      have hne : ((k : Int) == 31) = false := by rw [beq_eq_false_iff_ne]; exact h3
      have hw : IntKind.u64.wrap (k : Int) = k := by rw [IntKind.wrap_u64]; omega
      obtain ⟨T, hTe⟩ : ∃ T : ByteArray, T = ⟨(decL k).toArray⟩ := ⟨_, rfl⟩
      have htz : (T.size : Int) ≤ 2 := by
        rw [hTe]; unfold decL; split
        · exact (show ((1 : Nat) : Int) ≤ 2 by decide)
        · exact (show ((2 : Nat) : Int) ≤ 2 by decide)
      have HCAT : Hid ((⟨#[120]⟩ : ByteArray) ++ T = ⟨(regNm k).toArray⟩) := Lib.hid (by
        rw [hTe]; exact ba_ext (by rw [cat_list]; rfl))
      rw [← hTe] at HTX
      have hk31z : (k : Int) ≤ 30 := by omega
      clear hT h1 h2 h2' hn hk31 h3 hTe
      go_enter Tryd.func50, Tryd.ntmps50
      go_wp2_with fail
      refine HTX.out.mono ?_
      rintro e w1 ⟨rfl, hb⟩
      have HB := Lib.hid hb
      clear hb
      go_wp2
      go_ret2
      exact ⟨by rw [HE.out, ← HCAT.out]; rfl, HB.out⟩
  · by_cases h3 : n = 31
    · subst h3
      have HE : Hid (regTextL 31 true = (spB, 0)) := Lib.hid (by decide)
      clear hT h1 h2 h2' hn
      go_enter Tryd.func50, Tryd.ntmps50
      go_wp2
      go_ret2
      exact ⟨by rw [HE.out]; rfl, Below.refl _ _⟩
    · have HE : Hid (regTextL n true = ([], 1)) := Lib.hid (by unfold regTextL; rw [if_pos (.inr (.inr ⟨rfl, h3⟩))])
      have hne : (n != 31) = true := by rw [bne_iff_ne]; exact h3
      clear hT h2 h3
      go_enter Tryd.func50, Tryd.ntmps50
      go_wp2
      go_ret2
      exact ⟨by rw [HE.out]; rfl, Below.refl _ _⟩
open Go.ChangeShapes Go.WideShapes Go.Deep Go.RowKit

def shB (j : Nat) : List UInt8 := if j = 0 then [108, 115, 108] else if j = 1 then [108, 115, 114] else if j = 2 then [97, 115, 114] else [114, 111, 114]
theorem Pow10.next {w w' : World} (h : Pow10 w) (hb : Below w.heap.size w w') : Pow10 w' := Lib.tabBelow_of_tabIs h w' hb
theorem lst_ne {s : ByteArray} {l : List UInt8} (h : s.data.toList ≠ l) : (s.toList == l) = false := by
  rw [beq_eq_false_iff_ne, ByteArray.toList_eq]; exact h
theorem trim_x {d : List UInt8} : Lib.trimPrefix (120 :: d) [120] = d ∧ Lib.hasPrefix (120 :: d) [120] = true := by
  constructor
  · unfold Lib.trimPrefix; rfl
  · rfl
theorem no_x {s : List UInt8} (h : Lib.hasPrefix s [120] = false) : ∀ d, s ≠ 120 :: d := by
  rintro d rfl
  rw [trim_x.2] at h; cases h
theorem has_x {s : List UInt8} (h : Lib.hasPrefix s [120] = true) : ∃ d, s = 120 :: d := by
  cases s with
  | nil => cases h
  | cons a t =>
    unfold Lib.hasPrefix at h
    simp only [List.isPrefixOf, Bool.and_true, beq_iff_eq] at h
    exact ⟨t, by rw [← h]⟩
theorem vf_lt {b : Nat} {l : List UInt8} {v x : Nat} (h : vf b l v = some x) (hv : v < 18446744073709551616) : x < 18446744073709551616 := by
  induction l generalizing v with
  | nil => rw [vf] at h; cases h; exact hv
  | cons c r ih =>
    rw [vf] at h
    split at h
    · rename_i c1; exact ih h c1
    · cases h
theorem valD_range (b : Nat) (l : List UInt8) : 0 ≤ (valD b l).1 ∧ (valD b l).1 < 18446744073709551616 ∧ ((valD b l).2 = 0 ∨ ((valD b l).1 = 0 ∧ ((valD b l).2 = 3 ∨ (valD b l).2 = 4))) := by
  unfold valD
  split
  · decide
  · split
    · rename_i v hv
      have := vf_lt hv (by decide)
      exact ⟨by simp only; omega, by simp only; omega, .inl rfl⟩
    · decide
theorem valS_range (l : List UInt8) : 0 ≤ (valS l).1 ∧ (valS l).1 < 18446744073709551616 ∧ ((valS l).2 = 0 ∨ ((valS l).1 = 0 ∧ ((valS l).2 = 3 ∨ (valS l).2 = 4))) := by
  unfold valS
  split
  · exact valD_range _ _
  · exact valD_range _ _
def shiftL (s : List UInt8) : Int := if s = [108, 115, 108] then 0 else if s = [108, 115, 114] then 1 else if s = [97, 115, 114] then 2 else if s = [114, 111, 114] then 3 else -1
abbrev shV : Value := .agg #[.string ⟨#[108, 115, 108]⟩, .string ⟨#[108, 115, 114]⟩, .string ⟨#[97, 115, 114]⟩, .string ⟨#[114, 111, 114]⟩]
def isNmL (s : List UInt8) : Bool := isWordL s && decide ((regL s).2.2 ≠ 0) && decide (shiftL s < 0)
def isDg (c : UInt8) : Bool := decide (48 ≤ c.toNat) && decide (c.toNat ≤ 57)
def labV : List UInt8 → Nat → Option Nat
  | [], n => some n
  | c :: t, n => if isDg c = true then labV t (10 * n + (c.toNat - 48)) else none
/-- A local label: its number, and whether it is upward. -/
def labelL (s : List UInt8) : Option (Nat × Bool) :=
  if s.length < 2 ∨ 5 < s.length then none else
    match s.getLast? with
    | none => none
    | some c => if c = 102 ∨ c = 98 then (match labV s.dropLast 0 with | none => none | some n => some (n, c == 102)) else none
def labelV (o : Option (Nat × Bool)) : Value := match o with | none => .tuple #[.int .i64 0, .bool false, .bool false] | some (n, u) => .tuple #[.int .i64 (n : Int), .bool u, .bool true]
theorem labelL_len {s : List UInt8} (h : s.length < 2 ∨ 5 < s.length) : labelL s = none := by unfold labelL; rw [if_pos h]
end Go.Proofs.YtkcgnmicaigjfaaDoor
