/- The tie of a table of rows of integers: what the row lists is what the cells hold. Nothing of the program. part.Fits. The row's five tables. -/
import Derived.Lib.LaidTab
import Derived.ChangeArms
import Derived.Test.YtdgfadabaejkhaaGreatDoorkC13
import Derived.Test.YtdgfadabaejkhaaGreatDoorkHA
import Derived.Deep.MidRow
namespace Go.Proofs.YtdgfadabaejkhaaGreatDoor
set_option linter.unusedVariables false
set_option linter.unusedSimpArgs false
open Go.RowKit

def rowData {H : Type} (k : IntKind) (zs : List (List Int)) : DataW H := .agg (zs.map fun z => Lib.tabData k z)
def RowsIs (P : Program) (w : World) (name : String) (k : IntKind) (zs : List (List Int)) : Prop := w.var? P name = some ((zs.map fun z => z.map fun x => Value.int k x).flatten).toArray

theorem rows_eq {α : Type} (m : Nat) : ∀ (rs : List (List α)) (cs : List α), cs.length = rs.length * m → (∀ (i : Nat) (h : i < rs.length), (cs.drop (i * m)).take m = rs[i]) → cs = rs.flatten := by
  intro rs
  induction rs with
  | nil =>
    intro cs h _
    rw [List.length_nil, Nat.zero_mul] at h
    rw [List.eq_nil_of_length_eq_zero h]; rfl
  | cons r rs ih =>
    intro cs hl h
    rw [List.length_cons, Nat.succ_mul] at hl
    have h0 := h 0 (by simp)
    rw [Nat.zero_mul, List.drop_zero, List.getElem_cons_zero] at h0
    have h1 := ih (cs.drop m) (by rw [List.length_drop]; omega) (fun i hi => by
      have := h (i + 1) (by simpa using hi)
      rw [List.getElem_cons_succ] at this
      rw [List.drop_drop, ← this, Nat.succ_mul, Nat.add_comm])
    rw [List.flatten_cons, ← h0, ← h1, List.take_append_drop]

theorem cells_of_rows {H : Type} {enc : TypeId × Value → H} {P : Program} {w : World} {base : Nat} {sp : Nat → Bool} {held : Bool} {fuel : Nat} {t e x : TypeId} {n m : Nat} {k : IntKind} {cs : List Value} {zs : List (List Int)} {p : List MemPlace}
    (ht : P.underlying t = some (.array n e)) (he : P.underlying e = some (.array m x)) (hx : P.underlying x = some (.int k)) (hcx : P.cellsOf x = 1) (hce : P.cellsOf e = m) (hct : P.cellsOf t = n * m)
    (h : DataW.trod enc P w base sp held fuel t cs = some (rowData k zs, p)) : cs = (zs.map fun z => z.map fun x => Value.int k x).flatten := by
  match fuel, h with
  | 0, h => simp [DataW.trod] at h
  | f + 1, h =>
    simp only [DataW.trod, ht, hce, hct] at h
    split at h
    case isFalse => cases h
    case isTrue hl =>
      obtain ⟨xs, hm, hy⟩ := Option.map_eq_some_iff.1 h
      have h1 : xs.map (·.1) = zs.map fun z => (Lib.tabData k z : DataW H) := by simpa [rowData] using congrArg Prod.fst hy
      have hxl : xs.length = n := by simpa using Lib.mapM_length hm
      have hzl : zs.length = n := by simpa [hxl] using (congrArg List.length h1).symm
      refine rows_eq m _ cs (by rw [hl, List.length_map, hzl]) fun i hi => ?_
      rw [List.length_map, hzl] at hi
      obtain ⟨b, hb, hf⟩ := Lib.mapM_at hm i i (by simp [hi])
      have c2 : (xs.map (·.1))[i]? = some b.1 := by simp [hb]
      rw [h1, List.getElem?_map, Option.map_eq_some_iff] at c2
      obtain ⟨z, hz, hzz⟩ := c2
      have hb2 : b = (Lib.tabData k z, b.2) := by rw [hzz]
      rw [hb2] at hf
      have := Lib.cells_of_tab he hx hcx hce hf
      rw [this, List.getElem_map]
      have hzi : zs[i]'(by omega) = z := by
        have := List.getElem?_eq_getElem (l := zs) (i := i) (by omega)
        rw [this] at hz; exact Option.some.inj hz
      rw [hzi]

theorem rowsIs_of_head {P : Program} {W : World} {name : String} {k : IntKind} {zs : List (List Int)} {rest : List (String × DataW Unit)} {g : Nat} {t e x : TypeId} {n m : Nat}
    (hg : P.globalNamed name = some g) (hty : (P.globals[g]?).map (·.type) = some t) (ht : P.underlying t = some (.array n e)) (he : P.underlying e = some (.array m x)) (hx : P.underlying x = some (.int k)) (hcx : P.cellsOf x = 1) (hce : P.cellsOf e = m) (hct : P.cellsOf t = n * m)
    (h : laidMet P ((name, rowData k zs) :: rest) W) : RowsIs P W name k zs := by
  obtain ⟨ps, ⟨g', t', cs, fuel, p, q, hg', ht', hvar, hd, _, _⟩, _⟩ := h
  have e1 := Option.some.inj (hg.symm.trans hg')
  subst e1
  have e2 := Option.some.inj (hty.symm.trans ht')
  subst e2
  rw [RowsIs, hvar, ← cells_of_rows ht he hx hcx hce hct hd]

theorem RowsIs.cell {P : Program} {W : World} {name : String} {k : IntKind} {zs : List (List Int)} {g : Nat} (h : RowsIs P W name k zs) (hg : P.globalNamed name = some g) (i : Nat) (v : Value) (hi : ((zs.map fun z => z.map fun x => Value.int k x).flatten)[i]? = some v) :
    W.cell? ⟨g, i, none⟩ = some v := by
  have := World.var?_cell hg h i
  simp only [List.getElem?_toArray] at this
  rw [this]; exact hi

def fitF : List Int := [0, 0, 0, 0, 0, 0, 29, 30, 0, 31, 32, 33, 26, 0, 0, 27, 0, 0, 28, 0, 0, 4, 0, 0, 22, 23, 0, 24, 25, 0]
abbrev Fitting (w : World) : Prop := ∀ j, j < 30 → w.cell? ⟨0, j, none⟩ = some (.int .i64 (fitF.getD j 0))
abbrev Tab7 (w : World) : Prop := Tab6 w ∧ Fitting w ∧ 0 < w.heap.size
theorem Tab7.below {w w' : World} (h : Tab7 w) (hb : Below w.heap.size w w') : Tab7 w' :=
  ⟨h.1.below hb, fun j hj => by rw [hb.cell (p := ⟨0, j, none⟩) h.2.2]; exact h.2.1 j hj, Nat.lt_of_lt_of_le h.2.2 hb.size⟩
theorem jFi : Tryz.prog.globalNamed "cleat/part.fitting" = some 0 := by kernel_rfl
theorem tab7_of {w : World} (h6 : Tab6 w) (hf : RowsIs Tryz.prog w "cleat/part.fitting" .i64 fitT) : Tab7 w := by
  have hc : ∀ j : Fin 30, ((fitT.map fun z => z.map fun x => Value.int .i64 x).flatten)[j.val]? = some (.int .i64 (fitF.getD j.val 0)) := fun ⟨j, hj⟩ => by
    have hcs : j = 0 ∨ j = 1 ∨ j = 2 ∨ j = 3 ∨ j = 4 ∨ j = 5 ∨ j = 6 ∨ j = 7 ∨ j = 8 ∨ j = 9 ∨ j = 10 ∨ j = 11 ∨ j = 12 ∨ j = 13 ∨ j = 14 ∨ j = 15 ∨ j = 16 ∨ j = 17 ∨ j = 18 ∨ j = 19 ∨ j = 20 ∨ j = 21 ∨ j = 22 ∨ j = 23 ∨ j = 24 ∨ j = 25 ∨ j = 26 ∨ j = 27 ∨ j = 28 ∨ j = 29 := by omega
    rcases hcs with rfl | rfl | rfl | rfl | rfl | rfl | rfl | rfl | rfl | rfl | rfl | rfl | rfl | rfl | rfl | rfl | rfl | rfl | rfl | rfl | rfl | rfl | rfl | rfl | rfl | rfl | rfl | rfl | rfl | rfl <;> rfl
  exact ⟨h6, fun j hj => hf.cell jFi j _ (hc ⟨j, hj⟩), cell_lt (hf.cell jFi 0 _ (hc ⟨0, by decide⟩))⟩

theorem fit_row (k : Nat) (hk : k ≤ 9) : ∃ a b c : Int, fitF.getD (3 * k) 0 = a ∧ fitF.getD (3 * k + 1) 0 = b ∧ fitF.getD (3 * k + 2) 0 = c ∧ fitK (k : Int) = [a, b, c] := by
  have hc : k = 0 ∨ k = 1 ∨ k = 2 ∨ k = 3 ∨ k = 4 ∨ k = 5 ∨ k = 6 ∨ k = 7 ∨ k = 8 ∨ k = 9 := by omega
  rcases hc with rfl | rfl | rfl | rfl | rfl | rfl | rfl | rfl | rfl | rfl <;> exact ⟨_, _, _, rfl, rfl, rfl, rfl⟩
theorem range3 {w : World} {g o : Nat} {a b c : Int} (h0 : w.cell? ⟨g, o, none⟩ = some (.int .i64 a)) (h1 : w.cell? ⟨g, o + 1, none⟩ = some (.int .i64 b)) (h2 : w.cell? ⟨g, o + 2, none⟩ = some (.int .i64 c)) : w.rangeAt g o [.int .i64 a, .int .i64 b, .int .i64 c] := by
  intro j v hj
  match j, hj with
  | 0, hj => cases hj; exact h0
  | 1, hj => cases hj; exact h1
  | 2, hj => cases hj; exact h2

set_option maxRecDepth 100000 in
set_option maxHeartbeats 4000000 in
theorem fits_low (kind : Int) (x : Nat) (w : World) (h : kind < 0) : Calls Tryz.prog 145 #[.int .i64 kind, .int .u32 x] w (RetB (.bool false) w) := by
  go_enter Tryz.func145, Tryz.ntmps145
  go_wp2
  go_ret
  exact retB_bool rfl (Below.refl _ _)
set_option maxRecDepth 100000 in
set_option maxHeartbeats 4000000 in
theorem fits_high (kind : Int) (x : Nat) (w : World) (h : 9 < kind) (h63 : kind ≤ 9223372036854775807) : Calls Tryz.prog 145 #[.int .i64 kind, .int .u32 x] w (RetB (.bool false) w) := by
  have h0 : ¬ kind < 0 := by omega
  go_enter Tryz.func145, Tryz.ntmps145
  go_wp2
  go_ret
  exact retB_bool rfl (Below.refl _ _)
set_option maxRecDepth 100000 in
set_option maxHeartbeats 4000000 in
theorem fits_no (kind : Int) (x : Nat) (w : World) (h0 : 0 ≤ kind) (h9 : kind ≤ 9) (hx : x < 4294967296) (hw : Tab7 w) (hI : isI (readW x) = false) : Calls Tryz.prog 145 #[.int .i64 kind, .int .u32 x] w (RetB (.bool false) w) := by
  have HD : Hid (∀ w, Tab7 w → Calls Tryz.prog 163 #[.int .u32 x] w (RetB (.tuple #[inV inZ, .int .i64 11]) w)) := Lib.hid fun w h => by
    have := CDecode_any x hx w h.1
    rwa [show dI x = (inZ, 11) from by unfold dI; rw [hI]; rfl] at this
  have HT := Lib.hid hw
  clear hw hI
  have HB := Lib.hid (Below.refl w.heap.size w)
  go_enter Tryz.func145, Tryz.ntmps145
  go_wp2_with (go_at_call 163; ((with_reducible refine (HD.out _ (HT.out.below HB.out)).mono ?_); rintro e w1 ⟨rfl, hb⟩; replace HB := Lib.hid (after HB.out hb); clear hb))
  go_ret
  exact retB_bool rfl (bel_alloc HB.out _)
set_option maxRecDepth 100000 in
set_option maxHeartbeats 8000000 in
theorem fits_yes (k : Nat) (x : Nat) (w : World) (h9 : k ≤ 9) (hx : x < 4294967296) (hw : Tab7 w) (hI : isI (readW x) = true) : Calls Tryz.prog 145 #[.int .i64 (k : Int), .int .u32 x] w (RetB (.bool (fitsI (k : Int) (readW x))) w) := by
  have HD : Hid (∀ w, Tab7 w → Calls Tryz.prog 163 #[.int .u32 x] w (RetB (.tuple #[inV (readW x), .int .i64 0]) w)) := Lib.hid fun w h => by
    have := CDecode_any x hx w h.1
    rwa [show dI x = (readW x, 0) from by unfold dI; rw [hI]; rfl] at this
  obtain ⟨r0, r1, r2, e0, e1, e2, er⟩ := fit_row k h9
  have HE : Hid (fitsI (k : Int) (readW x) = ((readW x).imm == 0 && ((readW x).amount == 0 && (r0 == (readW x).op || (r1 == (readW x).op || r2 == (readW x).op))))) := Lib.hid (by unfold fitsI; rw [hI, er]; simp [Bool.and_assoc])
  have HC : Hid (∀ w, Tab7 w → w.rangeAt 0 (k * 3) [.int .i64 r0, .int .i64 r1, .int .i64 r2]) := Lib.hid fun w h => by
    rw [Nat.mul_comm]
    exact range3 (by rw [h.2.1 (3 * k) (by omega), e0]) (by rw [h.2.1 (3 * k + 1) (by omega), e1]) (by rw [h.2.1 (3 * k + 2) (by omega), e2])
  have hsz : (Tryz.prog.info? 176).map (·.size) = some 3 := by kernel_rfl
  have HSZ := Lib.hid hsz
  have HT := Lib.hid hw
  have i0 : ∀ w, (Instr.index 176 (.agg #[.int .i64 r0, .int .i64 r1, .int .i64 r2]) (.int .i64 0)).run Tryz.prog w = .ok (.int .i64 r0) w := fun _ => by kernel_rfl
  have i1 : ∀ w, (Instr.index 176 (.agg #[.int .i64 r0, .int .i64 r1, .int .i64 r2]) (.int .i64 1)).run Tryz.prog w = .ok (.int .i64 r1) w := fun _ => by kernel_rfl
  have i2 : ∀ w, (Instr.index 176 (.agg #[.int .i64 r0, .int .i64 r1, .int .i64 r2]) (.int .i64 2)).run Tryz.prog w = .ok (.int .i64 r2) w := fun _ => by kernel_rfl
  clear hw hI e0 e1 e2 er hsz
  generalize readW x = i at *
  obtain ⟨o, d, n, m, a, y, kk, hh, t, c⟩ := i
  simp only [] at HE
  have HB := Lib.hid (Below.refl w.heap.size w)
  cases g0 : (y == 0)
  · have HE2 : Hid (fitsI (k : Int) ⟨o, d, n, m, a, y, kk, hh, t, c⟩ = false) := Lib.hid (by rw [HE.out, g0]; rfl)
    clear HE HC HSZ i0 i1 i2
    have g0' : (y != 0) = true := by simp [bne, g0]
    go_enter Tryz.func145, Tryz.ntmps145
    go_wp2_with (go_at_call 163; ((with_reducible refine (HD.out _ (HT.out.below HB.out)).mono ?_); rintro e w1 ⟨rfl, hb⟩; replace HB := Lib.hid (after HB.out hb); clear hb))
    go_ret
    exact retB_bool (by rw [HE2.out]) (bel_alloc HB.out _)
  · obtain rfl : y = 0 := eq_of_beq g0
    clear g0
    cases g0 : (t == 0)
    · have HE2 : Hid (fitsI (k : Int) ⟨o, d, n, m, a, 0, kk, hh, t, c⟩ = false) := Lib.hid (by rw [HE.out, g0]; rfl)
      clear HE HC HSZ i0 i1 i2
      have g0' : (t != 0) = true := by simp [bne, g0]
      go_enter Tryz.func145, Tryz.ntmps145
      go_wp2_with (go_at_call 163; ((with_reducible refine (HD.out _ (HT.out.below HB.out)).mono ?_); rintro e w1 ⟨rfl, hb⟩; replace HB := Lib.hid (after HB.out hb); clear hb))
      go_ret
      exact retB_bool (by rw [HE2.out]) (bel_alloc HB.out _)
    · obtain rfl : t = 0 := eq_of_beq g0
      clear g0
      have HE2 : Hid (fitsI (k : Int) ⟨o, d, n, m, a, 0, kk, hh, 0, c⟩ = (r0 == o || (r1 == o || r2 == o))) := Lib.hid (by rw [HE.out]; rfl)
      clear HE
      cases q0 : (r0 == o) <;> cases q1 : (r1 == o) <;> cases q2 : (r2 == o)
      all_goals
        rw [q0, q1, q2] at HE2
        go_enter Tryz.func145, Tryz.ntmps145
        go_wp2_with (first
          | (go_at_call 163; ((with_reducible refine (HD.out _ (HT.out.below HB.out)).mono ?_); rintro e w1 ⟨rfl, hb⟩; replace HB := Lib.hid (after HB.out hb); clear hb))
          | (refine wpList_load_mid rfl 176 _ rfl 0 (k * 3) rfl [.int .i64 r0, .int .i64 r1, .int .i64 r2] _ (HC.out _ (HT.out.below (bel_alloc HB.out _))) Tryz.underlying176 rfl HSZ.out ?_))
        refine wp_loop_rounds 4 ?_
        rw [rounds_succ]
        go_wp2
        iterate 3 (all_goals (try (rw [rounds_succ]; go_wp2)))
        all_goals
          go_ret
          exact retB_bool (by rw [HE2.out]; rfl) (bel_alloc HB.out _)
theorem Fits_any (kind : Int) (x : Nat) (w : World) (k0 : -9223372036854775808 ≤ kind) (k1 : kind ≤ 9223372036854775807) (hx : x < 4294967296) (hw : Tab7 w) : Calls Tryz.prog 145 #[.int .i64 kind, .int .u32 x] w (RetB (.bool (fitsI kind (readW x))) w) := by
  by_cases h0 : kind < 0
  · rw [show fitsI kind (readW x) = false from by unfold fitsI fitK; rw [if_pos (.inl h0)]; simp]
    exact fits_low kind x w h0
  by_cases h9 : 9 < kind
  · rw [show fitsI kind (readW x) = false from by unfold fitsI fitK; rw [if_pos (.inr h9)]; simp]
    exact fits_high kind x w h9 k1
  obtain ⟨k, rfl⟩ := Int.eq_ofNat_of_zero_le (show 0 ≤ kind by omega)
  cases hI : isI (readW x)
  · rw [show fitsI (k : Int) (readW x) = false from by unfold fitsI; rw [hI]; rfl]
    exact fits_no _ x w (by omega) (by omega) hx hw hI
  · exact fits_yes k x w (by omega) hx hw hI
theorem tabs7_of {w : World} (h64 : Lib.TabIs Tryz.prog w "math/bits.deBruijn64tab" .u8 [0, 1, 56, 2, 57, 49, 28, 3, 61, 58, 42, 50, 38, 29, 17, 4, 62, 47, 59, 36, 45, 43, 51, 22, 53, 39, 33, 30, 24, 18, 12, 5, 63, 55, 48, 27, 60, 41, 37, 16, 46, 35, 44, 21, 52, 32, 23, 11, 54, 26, 40, 15, 34, 20, 31, 10, 25, 14, 19, 9, 13, 8, 7, 6])
    (hs : Lib.TabIs Tryz.prog w "cleat/inst.shapes" .i64 shL) (hb : Lib.TabIs Tryz.prog w "cleat/code.bases" .u32 baI) (hl : Lib.TabIs Tryz.prog w "cleat/code.loose" .u32 loI) (hf : RowsIs Tryz.prog w "cleat/part.fitting" .i64 fitT) : Tab7 w := tab7_of (tabs_of h64 hs hb hl) hf
end Go.Proofs.YtdgfadabaejkhaaGreatDoor
