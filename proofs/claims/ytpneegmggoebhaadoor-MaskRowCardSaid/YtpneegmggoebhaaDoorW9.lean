/- The laws of masks, as the rows ask them. -/
import Derived.Test.YtpneegmggoebhaaDoorW8
namespace Go.Proofs.YtpneegmggoebhaaDoor
set_option linter.unusedVariables false
set_option linter.unusedSimpArgs false
open Go.RowKit
theorem MaskSize_walk (a : Int) (h : 0 ≤ a ∧ a < 18446744073709551616) (w : World) (hT : Tab w) : Calls Tryd.prog 7 #[.int .u64 a] w (RetB (.bool true) w) := by
  obtain ⟨v, rfl⟩ := Int.eq_ofNat_of_zero_le h.1
  exact MaskSize_nat v w (by omega) hT
theorem MaskOther_walk (a : Int) (h : 0 ≤ a ∧ a < 18446744073709551616) (y : Int) (hy : -9223372036854775808 ≤ y ∧ y ≤ 9223372036854775807) (w : World) (hT : Tab w) :
    Calls Tryd.prog 5 #[.int .u64 a, .int .i64 y] w (RetB (.bool true) w) := by
  obtain ⟨v, rfl⟩ := Int.eq_ofNat_of_zero_le h.1
  exact MaskOther_nat v y w (by omega) hT
theorem MaskDoes_walk (n : Int) (hn : -9223372036854775808 ≤ n ∧ n ≤ 9223372036854775807) (r : Int) (hr : -9223372036854775808 ≤ r ∧ r ≤ 9223372036854775807) (s : Int) (hs : -9223372036854775808 ≤ s ∧ s ≤ 9223372036854775807)
    (a : Int) (h : 0 ≤ a ∧ a < 18446744073709551616) (w : World) (hT : Tab w) : Calls Tryd.prog 3 #[.int .i64 n, .int .i64 r, .int .i64 s, .int .u64 a] w (RetB (.bool true) w) := by
  obtain ⟨v, rfl⟩ := Int.eq_ofNat_of_zero_le h.1
  exact MaskDoes_nat n r s v w (by omega) hT
theorem MaskBack_walk (n : Int) (hn : -9223372036854775808 ≤ n ∧ n ≤ 9223372036854775807) (r : Int) (hr : -9223372036854775808 ≤ r ∧ r ≤ 9223372036854775807) (s : Int) (hs : -9223372036854775808 ≤ s ∧ s ≤ 9223372036854775807)
    (a : Int) (h : 0 ≤ a ∧ a < 18446744073709551616) (w : World) (hT : Tab w) : Calls Tryd.prog 4 #[.int .i64 n, .int .i64 r, .int .i64 s, .int .u64 a] w (RetB (.bool true) w) := by
  obtain ⟨v, rfl⟩ := Int.eq_ofNat_of_zero_le h.1
  exact MaskBack_nat n r s v w (by omega) hT
theorem MaskRow_walk (n : Int) (hn : -9223372036854775808 ≤ n ∧ n ≤ 9223372036854775807) (s : Int) (hs : -9223372036854775808 ≤ s ∧ s ≤ 9223372036854775807) (y : Int) (hy : -9223372036854775808 ≤ y ∧ y ≤ 9223372036854775807)
    (w : World) (hT : Tab w) : Calls Tryd.prog 6 #[.int .i64 n, .int .i64 s, .int .i64 y] w (RetB (.bool true) w) := by
  by_cases h : isSz s = true ∧ 0 ≤ n ∧ n ≤ s
  · obtain ⟨h1, h2, h3⟩ := h
    obtain ⟨k, rfl⟩ := Int.eq_ofNat_of_zero_le h2
    obtain ⟨s', rfl⟩ := Int.eq_ofNat_of_zero_le (show 0 ≤ s by omega)
    exact MaskRow_yes k s' y w hT h1 (by omega)
  · exact MaskRow_no n s y w hT h
theorem tab_of {w : World} {zs : List Int} (hz : ∀ j, j < 64 → zs.getD j 0 = ((Lib.deBruijn64tab.getD j 0 : Nat) : Int)) (h : ∀ j, j < 64 → w.cell? ⟨0, j, none⟩ = some (.int .u8 (zs.getD j 0))) : Tab w :=
  ⟨fun j hj => by
    have hj' : j < 64 := hj
    rw [h j hj', hz j hj'], cell_lt (h 0 (by decide))⟩
end Go.Proofs.YtpneegmggoebhaaDoor
