/- part.Fits. -/
import Derived.Test.YtdeigbdcipkaaaaDoorC13
import Derived.Test.YtdeigbdcipkaaaaDoorH1
import Derived.Test.YtdeigbdcipkaaaaDoorIR
import Derived.Deep.MidRow
namespace Go.Proofs.YtdeigbdcipkaaaaDoor
set_option linter.unusedVariables false
set_option linter.unusedSimpArgs false
open Go.RowKit

def fitF : List Int := [0, 0, 0, 0, 0, 0, 29, 30, 0, 31, 32, 33, 26, 0, 0, 27, 0, 0, 28, 0, 0, 4, 0, 0, 22, 23, 0, 24, 25, 0]
abbrev Fitting (w : World) : Prop := ∀ j, j < 30 → w.cell? ⟨0, j, none⟩ = some (.int .i64 (fitF.getD j 0))
abbrev Tab7 (w : World) : Prop := Tab6 w ∧ Fitting w ∧ 0 < w.heap.size
theorem Tab7.below {w w' : World} (h : Tab7 w) (hb : Below w.heap.size w w') : Tab7 w' :=
  ⟨h.1.below hb, fun j hj => by rw [hb.cell (p := ⟨0, j, none⟩) h.2.2]; exact h.2.1 j hj, Nat.lt_of_lt_of_le h.2.2 hb.size⟩
theorem jFi : Tryd.prog.globalNamed "cleat/part.fitting" = some 0 := by kernel_rfl
theorem tab7_of {w : World} (h6 : Tab6 w) (hf : RowsIs Tryd.prog w "cleat/part.fitting" .i64 fitT) : Tab7 w := by
  have hc : ∀ j : Fin 30, ((fitT.map fun z => z.map fun x => Value.int .i64 x).flatten)[j.val]? = some (.int .i64 (fitF.getD j.val 0)) := fun ⟨j, hj⟩ => by
    have hcs : j = 0 ∨ j = 1 ∨ j = 2 ∨ j = 3 ∨ j = 4 ∨ j = 5 ∨ j = 6 ∨ j = 7 ∨ j = 8 ∨ j = 9 ∨ j = 10 ∨ j = 11 ∨ j = 12 ∨ j = 13 ∨ j = 14 ∨ j = 15 ∨ j = 16 ∨ j = 17 ∨ j = 18 ∨ j = 19 ∨ j = 20 ∨ j = 21 ∨ j = 22 ∨ j = 23 ∨ j = 24 ∨ j = 25 ∨ j = 26 ∨ j = 27 ∨ j = 28 ∨ j = 29 := by omega
    rcases hcs with rfl | rfl | rfl | rfl | rfl | rfl | rfl | rfl | rfl | rfl | rfl | rfl | rfl | rfl | rfl | rfl | rfl | rfl | rfl | rfl | rfl | rfl | rfl | rfl | rfl | rfl | rfl | rfl | rfl | rfl <;> rfl
  exact ⟨h6, fun j hj => hf.cell jFi j _ (hc ⟨j, hj⟩), cell_lt (hf.cell jFi 0 _ (hc ⟨0, by decide⟩))⟩

theorem fit_row (k : Nat) (hk : k ≤ 9) : ∃ a b c : Int, fitF.getD (3 * k) 0 = a ∧ fitF.getD (3 * k + 1) 0 = b ∧ fitF.getD (3 * k + 2) 0 = c ∧ fitK (k : Int) = [a, b, c] := by
  have hc : k = 0 ∨ k = 1 ∨ k = 2 ∨ k = 3 ∨ k = 4 ∨ k = 5 ∨ k = 6 ∨ k = 7 ∨ k = 8 ∨ k = 9 := by omega
  rcases hc with rfl | rfl | rfl | rfl | rfl | rfl | rfl | rfl | rfl | rfl <;> exact ⟨_, _, _, rfl, rfl, rfl, rfl⟩
theorem range3 {w : World} {g o : Nat} {a b c : Int} (h0 : w.cell? ⟨g, o, none⟩ = some (.int .i64 a)) (h1 : w.cell? ⟨g, o + 1, none⟩ = some (.int .i64 b)) (h2 : w.cell? ⟨g, o + 2, none⟩ = some (.int .i64 c)) : w.rangeAt g o [.int .i64 a, .int .i64 b, .int .i64 c] := by
  intro j v hj
  match j, hj with
  | 0, hj => cases hj; exact h0
  | 1, hj => cases hj; exact h1
  | 2, hj => cases hj; exact h2

set_option maxRecDepth 100000 in
set_option maxHeartbeats 4000000 in
theorem fits_low (kind : Int) (x : Nat) (w : World) (h : kind < 0) : Calls Tryd.prog 11 #[.int .i64 kind, .int .u32 x] w (RetB (.bool false) w) := by
  go_enter Tryd.func11, Tryd.ntmps11
  go_wp2
  go_ret
  exact retB_bool rfl (Below.refl _ _)
set_option maxRecDepth 100000 in
set_option maxHeartbeats 4000000 in
theorem fits_high (kind : Int) (x : Nat) (w : World) (h : 9 < kind) (h63 : kind ≤ 9223372036854775807) : Calls Tryd.prog 11 #[.int .i64 kind, .int .u32 x] w (RetB (.bool false) w) := by
  have h0 : ¬ kind < 0 := by omega
  go_enter Tryd.func11, Tryd.ntmps11
  go_wp2
  go_ret
  exact retB_bool rfl (Below.refl _ _)
set_option maxRecDepth 100000 in
set_option maxHeartbeats 4000000 in
theorem fits_no (kind : Int) (x : Nat) (w : World) (h0 : 0 ≤ kind) (h9 : kind ≤ 9) (hx : x < 4294967296) (hw : Tab7 w) (hI : isI (readW x) = false) : Calls Tryd.prog 11 #[.int .i64 kind, .int .u32 x] w (RetB (.bool false) w) := by
  have HD : Hid (∀ w, Tab7 w → Calls Tryd.prog 12 #[.int .u32 x] w (RetB (.tuple #[inV inZ, .int .i64 11]) w)) := Lib.hid fun w h => by
    have := CDecode_any x hx w h.1
    rwa [show dI x = (inZ, 11) from by unfold dI; rw [hI]; rfl] at this
  have HT := Lib.hid hw
  clear hw hI
  have HB := Lib.hid (Below.refl w.heap.size w)
  go_enter Tryd.func11, Tryd.ntmps11
  go_wp2_with (go_at_call 12; ((with_reducible refine (HD.out _ (HT.out.below HB.out)).mono ?_); rintro e w1 ⟨rfl, hb⟩; replace HB := Lib.hid (after HB.out hb); clear hb))
  go_ret
  exact retB_bool rfl (bel_alloc HB.out _)
set_option maxRecDepth 100000 in
set_option maxHeartbeats 8000000 in
theorem fits_yes (k : Nat) (x : Nat) (w : World) (h9 : k ≤ 9) (hx : x < 4294967296) (hw : Tab7 w) (hI : isI (readW x) = true) : Calls Tryd.prog 11 #[.int .i64 (k : Int), .int .u32 x] w (RetB (.bool (fitsI (k : Int) (readW x))) w) := by
  have HD : Hid (∀ w, Tab7 w → Calls Tryd.prog 12 #[.int .u32 x] w (RetB (.tuple #[inV (readW x), .int .i64 0]) w)) := Lib.hid fun w h => by
    have := CDecode_any x hx w h.1
    rwa [show dI x = (readW x, 0) from by unfold dI; rw [hI]; rfl] at this
  obtain ⟨r0, r1, r2, e0, e1, e2, er⟩ := fit_row k h9
  have HE : Hid (fitsI (k : Int) (readW x) = ((readW x).imm == 0 && ((readW x).amount == 0 && (r0 == (readW x).op || (r1 == (readW x).op || r2 == (readW x).op))))) := Lib.hid (by unfold fitsI; rw [hI, er]; simp [Bool.and_assoc])
  have HC : Hid (∀ w, Tab7 w → w.rangeAt 0 (k * 3) [.int .i64 r0, .int .i64 r1, .int .i64 r2]) := Lib.hid fun w h => by
    rw [Nat.mul_comm]
    exact range3 (by rw [h.2.1 (3 * k) (by omega), e0]) (by rw [h.2.1 (3 * k + 1) (by omega), e1]) (by rw [h.2.1 (3 * k + 2) (by omega), e2])
  have hsz : (Tryd.prog.info? 52).map (·.size) = some 3 := by kernel_rfl
  have HSZ := Lib.hid hsz
  have HT := Lib.hid hw
  have i0 : ∀ w, (Instr.index 52 (.agg #[.int .i64 r0, .int .i64 r1, .int .i64 r2]) (.int .i64 0)).run Tryd.prog w = .ok (.int .i64 r0) w := fun _ => by kernel_rfl
  have i1 : ∀ w, (Instr.index 52 (.agg #[.int .i64 r0, .int .i64 r1, .int .i64 r2]) (.int .i64 1)).run Tryd.prog w = .ok (.int .i64 r1) w := fun _ => by kernel_rfl
  have i2 : ∀ w, (Instr.index 52 (.agg #[.int .i64 r0, .int .i64 r1, .int .i64 r2]) (.int .i64 2)).run Tryd.prog w = .ok (.int .i64 r2) w := fun _ => by kernel_rfl
  clear hw hI e0 e1 e2 er hsz
  generalize readW x = i at *
  obtain ⟨o, d, n, m, a, y, kk, hh, t, c⟩ := i
  simp only [] at HE
  have HB := Lib.hid (Below.refl w.heap.size w)
  cases g0 : (y == 0)
  · have HE2 : Hid (fitsI (k : Int) ⟨o, d, n, m, a, y, kk, hh, t, c⟩ = false) := Lib.hid (by rw [HE.out, g0]; rfl)
    clear HE HC HSZ i0 i1 i2
    have g0' : (y != 0) = true := by simp [bne, g0]
    go_enter Tryd.func11, Tryd.ntmps11
    go_wp2_with (go_at_call 12; ((with_reducible refine (HD.out _ (HT.out.below HB.out)).mono ?_); rintro e w1 ⟨rfl, hb⟩; replace HB := Lib.hid (after HB.out hb); clear hb))
    go_ret
    exact retB_bool (by rw [HE2.out]) (bel_alloc HB.out _)
  · obtain rfl : y = 0 := eq_of_beq g0
    clear g0
    cases g0 : (t == 0)
    · have HE2 : Hid (fitsI (k : Int) ⟨o, d, n, m, a, 0, kk, hh, t, c⟩ = false) := Lib.hid (by rw [HE.out, g0]; rfl)
      clear HE HC HSZ i0 i1 i2
      have g0' : (t != 0) = true := by simp [bne, g0]
      go_enter Tryd.func11, Tryd.ntmps11
      go_wp2_with (go_at_call 12; ((with_reducible refine (HD.out _ (HT.out.below HB.out)).mono ?_); rintro e w1 ⟨rfl, hb⟩; replace HB := Lib.hid (after HB.out hb); clear hb))
      go_ret
      exact retB_bool (by rw [HE2.out]) (bel_alloc HB.out _)
    · obtain rfl : t = 0 := eq_of_beq g0
      clear g0
      have HE2 : Hid (fitsI (k : Int) ⟨o, d, n, m, a, 0, kk, hh, 0, c⟩ = (r0 == o || (r1 == o || r2 == o))) := Lib.hid (by rw [HE.out]; rfl)
      clear HE
      cases q0 : (r0 == o) <;> cases q1 : (r1 == o) <;> cases q2 : (r2 == o)
      all_goals
        rw [q0, q1, q2] at HE2
        go_enter Tryd.func11, Tryd.ntmps11
        go_wp2_with (first
          | (go_at_call 12; ((with_reducible refine (HD.out _ (HT.out.below HB.out)).mono ?_); rintro e w1 ⟨rfl, hb⟩; replace HB := Lib.hid (after HB.out hb); clear hb))
          | (refine wpList_load_mid rfl 52 _ rfl 0 (k * 3) rfl [.int .i64 r0, .int .i64 r1, .int .i64 r2] _ (HC.out _ (HT.out.below (bel_alloc HB.out _))) Tryd.underlying52 rfl HSZ.out ?_))
        refine wp_loop_rounds 4 ?_
        rw [rounds_succ]
        go_wp2
        iterate 3 (all_goals (try (rw [rounds_succ]; go_wp2)))
        all_goals
          go_ret
          exact retB_bool (by rw [HE2.out]; rfl) (bel_alloc HB.out _)
theorem Fits_any (kind : Int) (x : Nat) (w : World) (k0 : -9223372036854775808 ≤ kind) (k1 : kind ≤ 9223372036854775807) (hx : x < 4294967296) (hw : Tab7 w) : Calls Tryd.prog 11 #[.int .i64 kind, .int .u32 x] w (RetB (.bool (fitsI kind (readW x))) w) := by
  by_cases h0 : kind < 0
  · rw [show fitsI kind (readW x) = false from by unfold fitsI fitK; rw [if_pos (.inl h0)]; simp]
    exact fits_low kind x w h0
  by_cases h9 : 9 < kind
  · rw [show fitsI kind (readW x) = false from by unfold fitsI fitK; rw [if_pos (.inr h9)]; simp]
    exact fits_high kind x w h9 k1
  obtain ⟨k, rfl⟩ := Int.eq_ofNat_of_zero_le (show 0 ≤ kind by omega)
  cases hI : isI (readW x)
  · rw [show fitsI (k : Int) (readW x) = false from by unfold fitsI; rw [hI]; rfl]
    exact fits_no _ x w (by omega) (by omega) hx hw hI
  · exact fits_yes k x w (by omega) hx hw hI
end Go.Proofs.YtdeigbdcipkaaaaDoor
