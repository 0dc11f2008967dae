/- strconv.FormatUint, base 16. -/
import Derived.Test.YtklebljckmkdlaaDoorN5
import Derived.Outline
namespace Go.Proofs.YtklebljckmkdlaaDoor
set_option linter.unusedVariables false
set_option linter.unusedSimpArgs false
open Go.RowKit Go.Sort

/-- A digit's byte; the digits of a number to a base, the highest one first. -/
def dgB (d : Nat) : UInt8 := UInt8.ofNat (if d < 10 then 48 + d else 87 + d)
def digL (b u : Nat) : List UInt8 := if h : u < b ∨ b < 2 then [dgB u] else digL b (u / b) ++ [dgB (u % b)]
termination_by u
decreasing_by exact Nat.div_lt_self (by omega) (by omega)
theorem digL_small {b u : Nat} (h : u < b) : digL b u = [dgB u] := by rw [digL, dif_pos (.inl h)]
theorem digL_big {b u : Nat} (h : b ≤ u) (hb : 2 ≤ b) : digL b u = digL b (u / b) ++ [dgB (u % b)] := by rw [digL, dif_neg (by omega)]
theorem decDigits_digL (u : Nat) : Lib.decDigits u = digL 10 u := by
  induction u using Nat.strongRecOn with
  | _ u ih =>
    by_cases h : u < 10
    · rw [digL_small h, Lib.decDigits, dif_pos h]; simp [dgB, h]
    · rw [digL_big (by omega) (by omega), Lib.decDigits, dif_neg h, ih (u / 10) (by omega)]
      have : u % 10 < 10 := Nat.mod_lt _ (by decide)
      simp [dgB, this]

theorem tz_any (x : Nat) (w : World) (hx : x < 18446744073709551616) (hT : TabAt 2 Lib.deBruijn64tab w) :
    Calls Tryd.prog 42 #[.int .u64 x] w (Ret (.int .i64 (Lib.ctz 64 x)) w) := by
  by_cases hx0 : x = 0
  · subst hx0
    go_enter Tryd.func42, Tryd.ntmps42
    go_wp2
    go_ret
    exact ret_int rfl
  · obtain ⟨hlow, hk⟩ := Lib.lowest_bit 64 x hx0 hx
    obtain ⟨hi, htab⟩ := Lib.deBruijn64_at _ hk
    have hcell := hT _ hi
    rw [htab] at hcell
    have key := tz64_key x _ hx hx0 hlow
    obtain ⟨k, hkk⟩ : ∃ k, k = Lib.ctz 64 x := ⟨_, rfl⟩
    obtain ⟨idx, hidx⟩ : ∃ i, i = 2 ^ Lib.ctz 64 x * 285870213051353865 % 18446744073709551616 / 288230376151711744 := ⟨_, rfl⟩
    rw [← hidx] at hcell key hi
    rw [← hkk] at hcell hk ⊢
    clear hT hlow htab hidx hkk
    have hi2 : idx < 64 := hi
    have hx1 : ((x : Int) == 0) = false := by rw [beq_eq_false_iff_ne]; omega
    go_enter Tryd.func42, Tryd.ntmps42
    go_wp2_with (simp only [key])
    go_ret
    exact ret_int rfl
theorem tz16 : Lib.ctz 64 16 = 4 := by decide +kernel
theorem tzu_any (w : World) (hT : TabAt 2 Lib.deBruijn64tab w) :
    Calls Tryd.prog 40 #[.int .u64 16] w (Ret (.int .i64 4) w) := by
  have HT : Hid (∀ w, TabAt 2 Lib.deBruijn64tab w → Calls Tryd.prog 42 #[.int .u64 16] w (Ret (.int .i64 4) w)) := Lib.hid fun w h => by
    have := tz_any 16 w (by decide) h
    rw [tz16] at this
    exact this
  have HH := Lib.hid hT
  clear hT
  go_enter Tryd.func40, Tryd.ntmps40
  go_wp2_with (first | (go_at_call 42; ((with_reducible refine (HT.out _ HH.out).mono ?_); rintro e w' ⟨rfl, rfl⟩)))
  go_ret
  exact ret_int rfl
theorem pow2_any (w : World) : Calls Tryd.prog 39 #[.int .i64 16] w (Ret (.bool true) w) := by
  have h : bits .and .i64 16 15 = 0 := by decide +kernel
  go_enter Tryd.func39, Tryd.ntmps39
  go_wp2
  go_ret
  exact ret_bool rfl

/-- The array of 65 bytes: i of them noughts, then the digits that are told. -/
def row65 (L : List UInt8) : List Value := List.replicate (65 - L.length) (.int .u8 0) ++ L.map fun c => .int .u8 (c.toNat : Int)
theorem row65_at (L : List UInt8) (j : Nat) (h : L.length ≤ 65) (hj : j < L.length) : (row65 L)[65 - L.length + j]? = some (.int .u8 (L[j].toNat : Int)) := by
  unfold row65
  rw [List.getElem?_append_right (by simp), List.length_replicate, Nat.add_sub_cancel_left]
  simp [hj]
theorem row65_old (L : List UInt8) (h : L.length < 65) : (row65 L)[64 - L.length]? = some (.int .u8 0) := by
  unfold row65
  rw [List.getElem?_append_left (by simp; omega), List.getElem?_replicate, if_pos (by omega)]
theorem row65_set (L : List UInt8) (c : UInt8) (h : L.length < 65) : (row65 L).set (64 - L.length) (.int .u8 (c.toNat : Int)) = row65 (c :: L) := by
  unfold row65
  rw [List.set_append_left _ _ (by simp; omega)]
  have e : 65 - L.length = (64 - L.length) + 1 := by omega
  rw [List.length_cons, show 65 - (L.length + 1) = 64 - L.length by omega, e, List.replicate_succ', List.set_append_right _ _ (by simp)]
  simp
abbrev Row65 (w : World) (M : Nat) (L : List UInt8) : Prop := w.heap[M]? = some (.cells (row65 L).toArray 61 (0, 0))
theorem row65_cell {w : World} {M : Nat} {L : List UInt8} (h : Row65 w M L) (hl : L.length < 65) : w.cell? ⟨M, 64 - L.length, none⟩ = some (.int .u8 0) := by
  unfold World.cell?; rw [h]; simpa using row65_old L hl
theorem row65_free {w : World} {M : Nat} {L : List UInt8} (h : Row65 w M L) (j : Nat) : w.frozen? ⟨M, j, none⟩ = false := by
  unfold World.frozen?; rw [h]; simp
theorem row65_store {w : World} {M : Nat} {L : List UInt8} (h : Row65 w M L) (hl : L.length < 65) (c : UInt8) : Row65 (w.setCell ⟨M, 64 - L.length, none⟩ (.int .u8 (c.toNat : Int))) M (c :: L) := by
  show (w.setCell ⟨M, 64 - L.length, none⟩ (.int .u8 (c.toNat : Int))).heap[M]? = _
  simp only [World.setCell, Array.getElem?_modify, if_true, h, Option.map_some]
  rw [← row65_set L c hl]
  simp
theorem row65_read {w : World} {M : Nat} {L : List UInt8} (h : Row65 w M L) (hl : L.length ≤ 65) (j : Nat) (hj : j < L.length) : w.cell? ⟨M, 65 - L.length + j, none⟩ = some (.int .u8 (L[j].toNat : Int)) := by
  unfold World.cell?; rw [h]; simpa using row65_at L j hl hj
end Go.Proofs.YtklebljckmkdlaaDoor
