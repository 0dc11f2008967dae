/- strconv.FormatUint, base 10. -/
import Derived.Test.YtklebljckmkdlaaDoorN4
import Derived.Lib.AppendIntMem
import Derived.Shelf.Spec.TrailingZeros
import Derived.WalkSmall
namespace Go.Proofs.YtklebljckmkdlaaDoor
set_option linter.unusedVariables false
set_option linter.unusedSimpArgs false
open Go.RowKit Go.Sort

abbrev Pow10 (w : World) : Prop := Lib.TabIs Tryd.prog w "internal/strconv.uint64pow10" .u64 Lib.pow10Tab
abbrev Tab (w : World) : Prop := TabAt 2 Lib.deBruijn64tab w ∧ 2 < w.heap.size ∧ Pow10 w
theorem Tab.below {w w' : World} (h : Tab w) (hb : Below w.heap.size w w') : Tab w' :=
  ⟨fun j hj => by rw [hb.cell (p := ⟨2, j, none⟩) h.2.1]; exact h.1 j hj, Nat.lt_of_lt_of_le h.2.1 hb.size, Lib.tabBelow_of_tabIs h.2.2 w' hb⟩
theorem arr24 : Tryd.prog.arrayLen 51 = 24 := by kernel_rfl
theorem arr24e : Tryd.prog.elem 51 = 5 := by kernel_rfl

set_option maxHeartbeats 1600000 in
set_option maxRecDepth 100000 in
theorem fmt10_any (u : Nat) (w : World) (hu64 : u < 18446744073709551616) (hT : Pow10 w) :
    Calls Tryd.prog 30 #[.int .u64 u, .int .i64 10] w (RetB (.string ⟨(Lib.decDigits u).toArray⟩) w) := by
  by_cases hs : u < 100
  · have HS : Hid (∀ w, Calls Tryd.prog 32 #[.int .i64 u] w (Ret (.string ⟨(Lib.decDigits u).toArray⟩) w)) := Lib.hid fun w => (Tryd.internal_strconv_small u hs w).mono fun e w' h => ⟨h.1, h.2.symm⟩
    clear hT
    go_enter Tryd.func30, Tryd.ntmps30
    go_wp2_with (first | (go_at_call 32; ((with_reducible refine (HS.out _).mono ?_); rintro e w' ⟨rfl, rfl⟩)))
    go_ret
    exact ⟨rfl, Below.refl _ _⟩
  · have hu1 : 1 ≤ u := by omega
    have hnd20 : Lib.nDigits u ≤ 20 := by have := Lib.numDigits_eq u hu1 hu64; split at this <;> omega
    have hsl : ∀ W, (Instr.sliceAt 51 (.pointer (some ⟨w.heap.size, 0, none⟩)) none (some (.int .i64 (Lib.nDigits u : Int))) none).run Tryd.prog W = .ok (.slice (some ⟨w.heap.size, 0, none⟩) (Lib.nDigits u) 24) W := fun W => by
      rw [run_sliceAt_array_h W 51 ⟨w.heap.size, 0, none⟩ (by kernel_rfl) .i64 (Lib.nDigits u : Int) (by omega) (by rw [arr24]; omega)]
      rw [arr24]; rfl
    have hH0 := Lib.holds_zero0 w 51 (Lib.nDigits u) (by omega)
    have hfmt := Tryd.internal_strconv_formatBase10 w.heap.size 0 24 u (Array.replicate (Lib.nDigits u) 0) (w.alloc (.cells Lib.zeros24 51)) hH0 (by rw [Array.size_replicate]; exact Lib.lt_pow_nDigits u) hu64 (by rw [Array.size_replicate]; omega)
    rw [Array.size_replicate] at hfmt
    have HH0 := Lib.hid hH0
    have HF := Lib.hid hfmt
    have HN : Hid (∀ w, Pow10 w → Calls Tryd.prog 33 #[.int .u64 u] w (Ret (.int .i64 (Lib.nDigits u : Nat)) w)) := Lib.hid fun w h => (Tryd.internal_strconv_numDigits u hu1 hu64 w h).mono fun e w' h => ⟨h.1, h.2.symm⟩
    have HT := Lib.hid hT
    have hu100 : 100 ≤ u := by omega
    clear hH0 hfmt hT hs hu1
    go_enter Tryd.func30, Tryd.ntmps30
    go_wp2_with (first | (go_at_call 33; ((with_reducible refine (HN.out _ (Lib.tabIs_alloc HT.out _)).mono ?_); rintro e w' ⟨rfl, rfl⟩)))
    go_at_call 34
    refine HF.out.mono ?_
    rintro e w' ⟨rfl, k, v', dk, rfl, hF⟩
    have hcv : (convert 54 9 (.slice (some ⟨w.heap.size, 0, none⟩) (Lib.nDigits u) 24)).run Tryd.prog ((putRow (fun (b : UInt8) => Value.int .u8 (b.toNat : Int)) (w.alloc (.cells Lib.zeros24 51)) w.heap.size 0 dk).drewN k) = .ok (.string ⟨(Lib.decDigits u).toArray⟩) ((putRow (fun (b : UInt8) => Value.int .u8 (b.toNat : Int)) (w.alloc (.cells Lib.zeros24 51)) w.heap.size 0 dk).drewN k) := by
      have h := run_convert_bytes_back (P := Tryd.prog) ((putRow (fun (b : UInt8) => Value.int .u8 (b.toNat : Int)) (w.alloc (.cells Lib.zeros24 51)) w.heap.size 0 dk).drewN k) 54 9 5 ⟨w.heap.size, 0, none⟩ 24 (Lib.decDigits u) Tryd.underlying54 Tryd.underlying5 Tryd.underlying9 (fun j hj => by
        rw [Lib.row_is_numeral hF j hj, Lib.add_plain, World.cell?_drewN]
        exact cell?_putRow (fun (b : UInt8) => Value.int .u8 (b.toNat : Int)) _ w.heap.size 0 _ dk HH0.out (by rw [hF.size, Array.size_replicate]) j (by rw [hF.size]; rw [Lib.decDigits_length] at hj; exact hj))
      rw [Lib.decDigits_length] at h
      exact h
    have hnx2 : Below w.heap.size w ((putRow (fun (b : UInt8) => Value.int .u8 (b.toNat : Int)) (w.alloc (.cells Lib.zeros24 51)) w.heap.size 0 dk).drewN k) := by
      obtain ⟨os, eo⟩ := Lib.fin_at w (.cells Lib.zeros24 51) dk k 0
      rw [eo]; exact Lib.below_grow _ w (Nat.le_refl _) k os
    have HB2 := Lib.hid hnx2
    clear hnx2
    go_wp2
    go_ret
    exact ⟨rfl, HB2.out⟩
end Go.Proofs.YtklebljckmkdlaaDoor
