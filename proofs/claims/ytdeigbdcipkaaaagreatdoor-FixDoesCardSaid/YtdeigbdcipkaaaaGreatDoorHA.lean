/- Relocations, plain: an instruction that fits a kind, with the kind's value, is right; no function of the program in sight. fix: its small functions. fix.rules: an array of ten structs, each with a function. fix.Value. fix.Value at every kind. -/
import Derived.Test.YtdeigbdcipkaaaaGreatDoorC6
import Derived.Test.YtdeigbdcipkaaaaGreatDoorS
import Derived.Test.YtdeigbdcipkaaaaGreatDoorM0
import Derived.WalkSpells
import Derived.WalkLawsBesides
import Derived.Laws.EntriesVeiled
import Derived.Laws.Tables
import Derived.Laws.Rows
import Derived.Laws.CopyOwn
namespace Go.Proofs.YtdeigbdcipkaaaaGreatDoor
set_option linter.unusedVariables false
set_option linter.unusedSimpArgs false
open Go.RowKit

/-- The operations that fit each kind. -/
def fitT : List (List Int) := [[0, 0, 0], [0, 0, 0], [29, 30, 0], [31, 32, 33], [26, 0, 0], [27, 0, 0], [28, 0, 0], [4, 0, 0], [22, 23, 0], [24, 25, 0]]
def fitK (kind : Int) : List Int := if kind < 0 ∨ 9 < kind then [] else fitT.getD kind.toNat []
/-- Does an instruction fit a kind? -/
def fitsI (kind : Int) (i : In) : Bool := isI i && i.imm == 0 && i.amount == 0 && (fitK kind).any (· == i.op)
/-- What the values of a kind have to be. -/
def stepK (kind : Int) : Int := if kind = 2 ∨ kind = 3 ∨ kind = 4 then 4 else if kind = 8 then 8 else 1
def leastK (kind : Int) : Int := if kind = 2 then -134217728 else if kind = 3 ∨ kind = 4 ∨ kind = 5 ∨ kind = 6 then -1048576 else 0
def mostK (kind : Int) : Int := if kind = 2 then 134217724 else if kind = 3 ∨ kind = 4 then 1048572 else if kind = 5 ∨ kind = 6 then 1048575 else 4095
def okV (kind v : Int) : Prop := 2 ≤ kind ∧ kind ≤ 9 ∧ v.tmod (stepK kind) = 0 ∧ leastK kind ≤ v ∧ v ≤ mostK kind
theorem fit_cases {kind : Int} {o : Int} (h : (fitK kind).any (· == o) = true) (ho : 1 ≤ o) :
    (kind = 2 ∧ shapeI o = 11) ∨ (kind = 3 ∧ shapeI o = 12) ∨ (kind = 3 ∧ shapeI o = 9) ∨ (kind = 4 ∧ shapeI o = 9) ∨ (kind = 5 ∧ shapeI o = 10) ∨ (kind = 6 ∧ shapeI o = 10) ∨ (kind = 7 ∧ shapeI o = 2) ∨ (kind = 8 ∧ shapeI o = 7) ∨ (kind = 9 ∧ shapeI o = 8) := by
  unfold fitK at h
  split at h
  · simp at h
  · rename_i hk
    have hc : kind = 0 ∨ kind = 1 ∨ kind = 2 ∨ kind = 3 ∨ kind = 4 ∨ kind = 5 ∨ kind = 6 ∨ kind = 7 ∨ kind = 8 ∨ kind = 9 := by omega
    rcases hc with rfl | rfl | rfl | rfl | rfl | rfl | rfl | rfl | rfl | rfl
    all_goals
      simp [fitT] at h
      first
      | omega
      | (rcases h with rfl | rfl | rfl | rfl <;> first | (exfalso; omega) | decide)
      | (rcases h with rfl | rfl | rfl <;> first | (exfalso; omega) | decide)
      | (rcases h with rfl | rfl <;> first | (exfalso; omega) | decide)
/-- With its kind's value it is right. -/
theorem fits_imm {kind v : Int} {i : In} (h : fitsI kind i = true) (hv : okV kind v) : isI { i with imm := v } = true := by
  unfold fitsI at h
  simp only [Bool.and_eq_true, beq_iff_eq] at h
  obtain ⟨⟨⟨hI, h0⟩, ha⟩, hf⟩ := h
  have ho := code_op hI
  obtain ⟨k1, k2, k3, k4, k5⟩ := hv
  obtain ⟨o, d, n, m, a, x, k, hh, t, c⟩ := i
  simp only [] at h0 ha hf ho ⊢
  subst h0
  subst ha
  rcases fit_cases hf ho.1 with ⟨rfl, hs⟩ | ⟨rfl, hs⟩ | ⟨rfl, hs⟩ | ⟨rfl, hs⟩ | ⟨rfl, hs⟩ | ⟨rfl, hs⟩ | ⟨rfl, hs⟩ | ⟨rfl, hs⟩ | ⟨rfl, hs⟩
  all_goals
    obtain ⟨h1, h2, h3⟩ := isI_of hI hs
    simp [stepK, leastK, mostK] at k3 k4 k5
    unfold isI
    rw [hs]
    simp only [ownI, In.mk.injEq] at h1
    simp [pick, hasDb, hasNb, hasMb] at h1
    simp only [regsI, decide_eq_true_eq] at h2
    simp [numI, withinI] at h3
    simp only [sameI, ownI, pick, hasDb, hasNb, hasMb, regsI, numI, withinI]
    simp
    grind

set_option maxHeartbeats 400000 in
theorem far_any (f t : Int) (w : World) (f0 : 0 ≤ f) (f1 : f < 18446744073709551616) (t0 : 0 ≤ t) (t1 : t < 18446744073709551616) :
    Calls Tryz.prog 31 #[.int .u64 f, .int .u64 t] w (Ret (.int .i64 (wrap64 (t - f))) w) := by
  go_enter Tryz.func31, Tryz.ntmps31
  go_wp2
  go_ret
  refine ret_int ?_
  simp only [wrap64, IntKind.wrap_u64, IntKind.wrap_i64]
  omega
set_option maxHeartbeats 400000 in
theorem pageOf_any (a : Int) (w : World) (f0 : 0 ≤ a) (f1 : a < 18446744073709551616) : Calls Tryz.prog 30 #[.int .u64 a] w (Ret (.int .u64 (a - a % 4096)) w) := by
  go_enter Tryz.func30, Tryz.ntmps30
  go_wp2
  go_ret
  refine ret_int ?_
  first | rfl | omega | (simp only [IntKind.wrap_u64]; omega)
set_option maxHeartbeats 400000 in
theorem pages_any (f t : Int) (w : World) (f0 : 0 ≤ f) (f1 : f < 18446744073709551616) (t0 : 0 ≤ t) (t1 : t < 18446744073709551616) : Calls Tryz.prog 32 #[.int .u64 f, .int .u64 t] w (Ret (.int .i64 ((wrap64 ((t - t % 4096) - (f - f % 4096))).tdiv 4096)) w) := by
  have H1 : Hid (∀ w, Calls Tryz.prog 30 #[.int .u64 f] w (Ret (.int .u64 (f - f % 4096)) w)) := Lib.hid fun w => pageOf_any f w f0 f1
  have H2 : Hid (∀ w, Calls Tryz.prog 30 #[.int .u64 t] w (Ret (.int .u64 (t - t % 4096)) w)) := Lib.hid fun w => pageOf_any t w t0 t1
  have H3 : Hid (∀ w, Calls Tryz.prog 31 #[.int .u64 (f - f % 4096), .int .u64 (t - t % 4096)] w (Ret (.int .i64 (wrap64 ((t - t % 4096) - (f - f % 4096)))) w)) := Lib.hid fun w => far_any _ _ w (by omega) (by omega) (by omega) (by omega)
  have hb : -9223372036854775808 ≤ wrap64 ((t - t % 4096) - (f - f % 4096)) ∧ wrap64 ((t - t % 4096) - (f - f % 4096)) ≤ 9223372036854775807 := by unfold wrap64; omega
  generalize wrap64 ((t - t % 4096) - (f - f % 4096)) = v at *
  generalize f - f % 4096 = pf at *
  generalize t - t % 4096 = pt at *
  go_enter Tryz.func32, Tryz.ntmps32
  go_wp2_with (first | (go_at_call 30; ((with_reducible refine (H1.out _).mono ?_); rintro e w' ⟨rfl, rfl⟩)) | (go_at_call 30; ((with_reducible refine (H2.out _).mono ?_); rintro e w' ⟨rfl, rfl⟩)) | (go_at_call 31; ((with_reducible refine (H3.out _).mono ?_); rintro e w' ⟨rfl, rfl⟩)))
  go_ret
  exact ret_int rfl
set_option maxHeartbeats 400000 in
theorem flow_any (f t : Int) (w : World) (t0 : 0 ≤ t) (t1 : t < 18446744073709551616) : Calls Tryz.prog 33 #[.int .u64 f, .int .u64 t] w (Ret (.int .i64 (t % 4096)) w) := by
  go_enter Tryz.func33, Tryz.ntmps33
  go_wp2
  go_ret
  refine ret_int ?_
  first | rfl | omega

def rulesC : Array Value := #[.nilFunc, .int .i64 0, .int .i64 0, .int .i64 0, .nilFunc, .int .i64 0, .int .i64 0, .int .i64 0, .func (Fn.func 31) #[] #[], .int .i64 (4), .int .i64 (-134217728), .int .i64 (134217724), .func (Fn.func 31) #[] #[], .int .i64 (4), .int .i64 (-1048576), .int .i64 (1048572), .func (Fn.func 31) #[] #[], .int .i64 (4), .int .i64 (-1048576), .int .i64 (1048572), .func (Fn.func 31) #[] #[], .int .i64 (1), .int .i64 (-1048576), .int .i64 (1048575), .func (Fn.func 32) #[] #[], .int .i64 (1), .int .i64 (-1048576), .int .i64 (1048575), .func (Fn.func 33) #[] #[], .int .i64 (1), .int .i64 (0), .int .i64 (4095), .func (Fn.func 33) #[] #[], .int .i64 (8), .int .i64 (0), .int .i64 (4095), .func (Fn.func 33) #[] #[], .int .i64 (1), .int .i64 (0), .int .i64 (4095)]
def zerosC : Array Value := #[.nilFunc, .int .i64 0, .int .i64 0, .int .i64 0, .nilFunc, .int .i64 0, .int .i64 0, .int .i64 0, .nilFunc, .int .i64 0, .int .i64 0, .int .i64 0, .nilFunc, .int .i64 0, .int .i64 0, .int .i64 0, .nilFunc, .int .i64 0, .int .i64 0, .int .i64 0, .nilFunc, .int .i64 0, .int .i64 0, .int .i64 0, .nilFunc, .int .i64 0, .int .i64 0, .int .i64 0, .nilFunc, .int .i64 0, .int .i64 0, .int .i64 0, .nilFunc, .int .i64 0, .int .i64 0, .int .i64 0, .nilFunc, .int .i64 0, .int .i64 0, .int .i64 0]
theorem zero_rules : ∀ w, (zeroValue 37).run Tryz.prog w = .ok (.agg zerosC) w := fun w => by kernel_rfl
theorem info_rules : (Tryz.prog.info? 37).map (·.size) = some rulesC.size := by kernel_rfl
set_option maxRecDepth 100000 in
set_option maxHeartbeats 4000000 in
theorem rules_any (w : World) : Calls Tryz.prog 13 #[] w (RetB (.agg rulesC) w) := by
  have hZ := zero_rules
  have hz0 := (MapKept.heap_alloc w (.cells zerosC 37)).1
  have hal : rulesC.all (·.oneCell') = true := by kernel_rfl
  have hsz : zerosC.size = rulesC.size := rfl
  have hinf := info_rules
  have hev : (Value.agg rulesC) = Value.agg rulesC := rfl
  go_enter Tryz.func13, Tryz.ntmps13
  go_wp2_with (refine wpList_store_row rfl 37 _ _ rfl w.heap.size rulesC rfl rfl 37 zerosC ((Below.heap_alloc _ _ _ (by simp)).trans (MapKept.heap_alloc w _).1) info_rules rfl (by kernel_rfl) ?_)
  have hg5 : (((w.alloc (.cells zerosC 37)).alloc (.cells #[.func (Fn.func 31) #[] #[], .int .i64 4, .int .i64 (-1048576), .int .i64 1048572] 36)).setRow w.heap.size rulesC).heap[w.heap.size]? = some (.cells rulesC 37 (0, 0)) := by
    have h0 : ((w.alloc (.cells zerosC 37)).alloc (.cells #[.func (Fn.func 31) #[] #[], .int .i64 4, .int .i64 (-1048576), .int .i64 1048572] 36)).heap[w.heap.size]? = some (.cells zerosC 37 (0, 0)) := (Below.heap_alloc _ _ _ (by simp)).trans (MapKept.heap_alloc w _).1
    simp only [World.setRow]
    rw [Array.getElem?_modify]
    simp [h0]
  have hb5 : Below w.heap.size w (((w.alloc (.cells zerosC 37)).alloc (.cells #[.func (Fn.func 31) #[] #[], .int .i64 4, .int .i64 (-1048576), .int .i64 1048572] 36)).setRow w.heap.size rulesC) := by
    exact below_setRow (((Below.refl _ w).alloc (Nat.le_refl _) _).alloc (by simp) _) (Nat.le_refl _) _
  generalize (((w.alloc (.cells zerosC 37)).alloc (.cells #[.func (Fn.func 31) #[] #[], .int .i64 4, .int .i64 (-1048576), .int .i64 1048572] 36)).setRow w.heap.size rulesC) = W5 at *
  have hload : (loadVar 37 ⟨w.heap.size, 0, none⟩).run Tryz.prog W5 = .ok (.agg rulesC) W5 := run_loadVar_row W5 _ _ _ rulesC (0, 0) _ hg5 Tryz.underlying37 rfl info_rules
  refine bodyPost_ret (v := .agg rulesC) (by simp [results, Tryz.results13, asAddr, Act.put, hload, Sem.run_pure, Result.andThen]) rfl ⟨rfl, hb5⟩

/-- The number of a kind. -/
def numK (kind f t : Int) : Int := if kind ≤ 5 then wrap64 (t - f) else if kind = 6 then (wrap64 ((t - t % 4096) - (f - f % 4096))).tdiv 4096 else t % 4096
def valK (kind f t : Int) : Int × Int :=
  if kind < 1 ∨ 9 < kind then (0, 1) else if kind = 1 then (t, 0) else if (numK kind f t).tmod (stepK kind) ≠ 0 then (0, 5)
  else if numK kind f t < leastK kind ∨ mostK kind < numK kind f t then (0, 4) else (numK kind f t % 18446744073709551616, 0)
theorem numK_b (kind f t : Int) (f0 : 0 ≤ f) (f1 : f < 18446744073709551616) (t0 : 0 ≤ t) (t1 : t < 18446744073709551616) : -9223372036854775808 ≤ numK kind f t ∧ numK kind f t ≤ 9223372036854775807 := by
  unfold numK
  split
  · unfold wrap64; omega
  · split
    · have h : -9223372036854775808 ≤ wrap64 ((t - t % 4096) - (f - f % 4096)) ∧ wrap64 ((t - t % 4096) - (f - f % 4096)) ≤ 9223372036854775807 := by unfold wrap64; omega
      generalize wrap64 ((t - t % 4096) - (f - f % 4096)) = v at *
      rcases Int.le_total 0 v with h0 | h0
      · rw [Int.tdiv_eq_ediv_of_nonneg h0]
        omega
      · have e : v = -(-v) := by omega
        rw [e, Int.neg_tdiv, Int.tdiv_eq_ediv_of_nonneg (by omega)]
        omega
    · omega

set_option maxRecDepth 100000 in
set_option maxHeartbeats 4000000 in
theorem value2 (f t : Int) (w : World) (f0 : 0 ≤ f) (f1 : f < 18446744073709551616) (t0 : 0 ≤ t) (t1 : t < 18446744073709551616) : Calls Tryz.prog 4 #[.int .i64 2, .int .u64 f, .int .u64 t] w (RetB (two .u64 .i64 (valK 2 f t)) w) := by
  have HR : Hid (∀ w, Calls Tryz.prog 13 #[] w (RetB (.agg rulesC) w)) := Lib.hid fun w => rules_any w
  have HF : Hid (∀ w, Calls Tryz.prog 31 #[.int .u64 f, .int .u64 t] w (Ret (.int .i64 (numK 2 f t)) w)) := Lib.hid fun w => far_any f t w f0 f1 t0 t1
  have hix : ∀ w, (Instr.index 37 (.agg rulesC) (.int .i64 2)).run Tryz.prog w = .ok (.agg #[.func (Fn.func 31) #[] #[], .int .i64 4, .int .i64 (-134217728), .int .i64 134217724]) w := fun w => by kernel_rfl
  have hv : valK 2 f t = if (numK 2 f t).tmod 4 ≠ 0 then (0, 5) else if numK 2 f t < -134217728 ∨ 134217724 < numK 2 f t then (0, 4) else (numK 2 f t % 18446744073709551616, 0) := rfl
  have HV := Lib.hid hv
  have hb := numK_b 2 f t f0 f1 t0 t1
  clear hv
  generalize valK 2 f t = vk at *
  generalize numK 2 f t = v at *
  go_enter Tryz.func4, Tryz.ntmps4
  go_wp2_with (first
    | (go_at_call 13; ((with_reducible refine (HR.out _).mono ?_); rintro e w1 ⟨rfl, hb1⟩; have HB := Lib.hid hb1; clear hb1))
    | (go_at_call 31; ((with_reducible refine (HF.out _).mono ?_); rintro e w' ⟨rfl, rfl⟩)))
  all_goals go_ret2
  all_goals (refine ⟨?_, HB.out.alloc HB.out.size _⟩)
  all_goals clear HR HF hix HB
  all_goals rw [HV.out]
  all_goals clear HV
  all_goals (try simp_all [IntKind.wrap_u64])
  all_goals (try (rw [if_neg (by omega)]; first | exact ⟨rfl, rfl⟩ | (refine ⟨?_, rfl⟩; show v = v % 18446744073709551616; omega)))

set_option maxRecDepth 100000 in
set_option maxHeartbeats 4000000 in
theorem value3 (f t : Int) (w : World) (f0 : 0 ≤ f) (f1 : f < 18446744073709551616) (t0 : 0 ≤ t) (t1 : t < 18446744073709551616) : Calls Tryz.prog 4 #[.int .i64 3, .int .u64 f, .int .u64 t] w (RetB (two .u64 .i64 (valK 3 f t)) w) := by
  have HR : Hid (∀ w, Calls Tryz.prog 13 #[] w (RetB (.agg rulesC) w)) := Lib.hid fun w => rules_any w
  have HF : Hid (∀ w, Calls Tryz.prog 31 #[.int .u64 f, .int .u64 t] w (Ret (.int .i64 (numK 3 f t)) w)) := Lib.hid fun w => far_any f t w f0 f1 t0 t1
  have hix : ∀ w, (Instr.index 37 (.agg rulesC) (.int .i64 3)).run Tryz.prog w = .ok (.agg #[.func (Fn.func 31) #[] #[], .int .i64 4, .int .i64 (-1048576), .int .i64 1048572]) w := fun w => by kernel_rfl
  have hv : valK 3 f t = if (numK 3 f t).tmod 4 ≠ 0 then (0, 5) else if numK 3 f t < -1048576 ∨ 1048572 < numK 3 f t then (0, 4) else (numK 3 f t % 18446744073709551616, 0) := rfl
  have HV := Lib.hid hv
  have hb := numK_b 3 f t f0 f1 t0 t1
  clear hv
  generalize valK 3 f t = vk at *
  generalize numK 3 f t = v at *
  go_enter Tryz.func4, Tryz.ntmps4
  go_wp2_with (first
    | (go_at_call 13; ((with_reducible refine (HR.out _).mono ?_); rintro e w1 ⟨rfl, hb1⟩; have HB := Lib.hid hb1; clear hb1))
    | (go_at_call 31; ((with_reducible refine (HF.out _).mono ?_); rintro e w' ⟨rfl, rfl⟩)))
  all_goals go_ret2
  all_goals (refine ⟨?_, HB.out.alloc HB.out.size _⟩)
  all_goals clear HR HF hix HB
  all_goals rw [HV.out]
  all_goals clear HV
  all_goals (try simp_all [IntKind.wrap_u64])
  all_goals (try (rw [if_neg (by omega)]; first | exact ⟨rfl, rfl⟩ | (refine ⟨?_, rfl⟩; show v = v % 18446744073709551616; omega)))

set_option maxRecDepth 100000 in
set_option maxHeartbeats 4000000 in
theorem value4 (f t : Int) (w : World) (f0 : 0 ≤ f) (f1 : f < 18446744073709551616) (t0 : 0 ≤ t) (t1 : t < 18446744073709551616) : Calls Tryz.prog 4 #[.int .i64 4, .int .u64 f, .int .u64 t] w (RetB (two .u64 .i64 (valK 4 f t)) w) := by
  have HR : Hid (∀ w, Calls Tryz.prog 13 #[] w (RetB (.agg rulesC) w)) := Lib.hid fun w => rules_any w
  have HF : Hid (∀ w, Calls Tryz.prog 31 #[.int .u64 f, .int .u64 t] w (Ret (.int .i64 (numK 4 f t)) w)) := Lib.hid fun w => far_any f t w f0 f1 t0 t1
  have hix : ∀ w, (Instr.index 37 (.agg rulesC) (.int .i64 4)).run Tryz.prog w = .ok (.agg #[.func (Fn.func 31) #[] #[], .int .i64 4, .int .i64 (-1048576), .int .i64 1048572]) w := fun w => by kernel_rfl
  have hv : valK 4 f t = if (numK 4 f t).tmod 4 ≠ 0 then (0, 5) else if numK 4 f t < -1048576 ∨ 1048572 < numK 4 f t then (0, 4) else (numK 4 f t % 18446744073709551616, 0) := rfl
  have HV := Lib.hid hv
  have hb := numK_b 4 f t f0 f1 t0 t1
  clear hv
  generalize valK 4 f t = vk at *
  generalize numK 4 f t = v at *
  go_enter Tryz.func4, Tryz.ntmps4
  go_wp2_with (first
    | (go_at_call 13; ((with_reducible refine (HR.out _).mono ?_); rintro e w1 ⟨rfl, hb1⟩; have HB := Lib.hid hb1; clear hb1))
    | (go_at_call 31; ((with_reducible refine (HF.out _).mono ?_); rintro e w' ⟨rfl, rfl⟩)))
  all_goals go_ret2
  all_goals (refine ⟨?_, HB.out.alloc HB.out.size _⟩)
  all_goals clear HR HF hix HB
  all_goals rw [HV.out]
  all_goals clear HV
  all_goals (try simp_all [IntKind.wrap_u64])
  all_goals (try (rw [if_neg (by omega)]; first | exact ⟨rfl, rfl⟩ | (refine ⟨?_, rfl⟩; show v = v % 18446744073709551616; omega)))

set_option maxRecDepth 100000 in
set_option maxHeartbeats 4000000 in
theorem value5 (f t : Int) (w : World) (f0 : 0 ≤ f) (f1 : f < 18446744073709551616) (t0 : 0 ≤ t) (t1 : t < 18446744073709551616) : Calls Tryz.prog 4 #[.int .i64 5, .int .u64 f, .int .u64 t] w (RetB (two .u64 .i64 (valK 5 f t)) w) := by
  have HR : Hid (∀ w, Calls Tryz.prog 13 #[] w (RetB (.agg rulesC) w)) := Lib.hid fun w => rules_any w
  have HF : Hid (∀ w, Calls Tryz.prog 31 #[.int .u64 f, .int .u64 t] w (Ret (.int .i64 (numK 5 f t)) w)) := Lib.hid fun w => far_any f t w f0 f1 t0 t1
  have hix : ∀ w, (Instr.index 37 (.agg rulesC) (.int .i64 5)).run Tryz.prog w = .ok (.agg #[.func (Fn.func 31) #[] #[], .int .i64 1, .int .i64 (-1048576), .int .i64 1048575]) w := fun w => by kernel_rfl
  have hv : valK 5 f t = if (numK 5 f t).tmod 1 ≠ 0 then (0, 5) else if numK 5 f t < -1048576 ∨ 1048575 < numK 5 f t then (0, 4) else (numK 5 f t % 18446744073709551616, 0) := rfl
  have HV := Lib.hid hv
  have hb := numK_b 5 f t f0 f1 t0 t1
  clear hv
  generalize valK 5 f t = vk at *
  generalize numK 5 f t = v at *
  go_enter Tryz.func4, Tryz.ntmps4
  go_wp2_with (first
    | (go_at_call 13; ((with_reducible refine (HR.out _).mono ?_); rintro e w1 ⟨rfl, hb1⟩; have HB := Lib.hid hb1; clear hb1))
    | (go_at_call 31; ((with_reducible refine (HF.out _).mono ?_); rintro e w' ⟨rfl, rfl⟩)))
  all_goals go_ret2
  all_goals (refine ⟨?_, HB.out.alloc HB.out.size _⟩)
  all_goals clear HR HF hix HB
  all_goals rw [HV.out]
  all_goals clear HV
  all_goals (try simp_all [IntKind.wrap_u64])
  all_goals (try (rw [if_neg (by omega)]; first | exact ⟨rfl, rfl⟩ | (refine ⟨?_, rfl⟩; show v = v % 18446744073709551616; omega)))

set_option maxRecDepth 100000 in
set_option maxHeartbeats 4000000 in
theorem value6 (f t : Int) (w : World) (f0 : 0 ≤ f) (f1 : f < 18446744073709551616) (t0 : 0 ≤ t) (t1 : t < 18446744073709551616) : Calls Tryz.prog 4 #[.int .i64 6, .int .u64 f, .int .u64 t] w (RetB (two .u64 .i64 (valK 6 f t)) w) := by
  have HR : Hid (∀ w, Calls Tryz.prog 13 #[] w (RetB (.agg rulesC) w)) := Lib.hid fun w => rules_any w
  have HF : Hid (∀ w, Calls Tryz.prog 32 #[.int .u64 f, .int .u64 t] w (Ret (.int .i64 (numK 6 f t)) w)) := Lib.hid fun w => pages_any f t w f0 f1 t0 t1
  have hix : ∀ w, (Instr.index 37 (.agg rulesC) (.int .i64 6)).run Tryz.prog w = .ok (.agg #[.func (Fn.func 32) #[] #[], .int .i64 1, .int .i64 (-1048576), .int .i64 1048575]) w := fun w => by kernel_rfl
  have hv : valK 6 f t = if (numK 6 f t).tmod 1 ≠ 0 then (0, 5) else if numK 6 f t < -1048576 ∨ 1048575 < numK 6 f t then (0, 4) else (numK 6 f t % 18446744073709551616, 0) := rfl
  have HV := Lib.hid hv
  have hb := numK_b 6 f t f0 f1 t0 t1
  clear hv
  generalize valK 6 f t = vk at *
  generalize numK 6 f t = v at *
  go_enter Tryz.func4, Tryz.ntmps4
  go_wp2_with (first
    | (go_at_call 13; ((with_reducible refine (HR.out _).mono ?_); rintro e w1 ⟨rfl, hb1⟩; have HB := Lib.hid hb1; clear hb1))
    | (go_at_call 32; ((with_reducible refine (HF.out _).mono ?_); rintro e w' ⟨rfl, rfl⟩)))
  all_goals go_ret2
  all_goals (refine ⟨?_, HB.out.alloc HB.out.size _⟩)
  all_goals clear HR HF hix HB
  all_goals rw [HV.out]
  all_goals clear HV
  all_goals (try simp_all [IntKind.wrap_u64])
  all_goals (try (rw [if_neg (by omega)]; first | exact ⟨rfl, rfl⟩ | (refine ⟨?_, rfl⟩; show v = v % 18446744073709551616; omega)))

set_option maxRecDepth 100000 in
set_option maxHeartbeats 4000000 in
theorem value7 (f t : Int) (w : World) (f0 : 0 ≤ f) (f1 : f < 18446744073709551616) (t0 : 0 ≤ t) (t1 : t < 18446744073709551616) : Calls Tryz.prog 4 #[.int .i64 7, .int .u64 f, .int .u64 t] w (RetB (two .u64 .i64 (valK 7 f t)) w) := by
  have HR : Hid (∀ w, Calls Tryz.prog 13 #[] w (RetB (.agg rulesC) w)) := Lib.hid fun w => rules_any w
  have HF : Hid (∀ w, Calls Tryz.prog 33 #[.int .u64 f, .int .u64 t] w (Ret (.int .i64 (numK 7 f t)) w)) := Lib.hid fun w => flow_any f t w t0 t1
  have hix : ∀ w, (Instr.index 37 (.agg rulesC) (.int .i64 7)).run Tryz.prog w = .ok (.agg #[.func (Fn.func 33) #[] #[], .int .i64 1, .int .i64 (0), .int .i64 4095]) w := fun w => by kernel_rfl
  have hv : valK 7 f t = if (numK 7 f t).tmod 1 ≠ 0 then (0, 5) else if numK 7 f t < 0 ∨ 4095 < numK 7 f t then (0, 4) else (numK 7 f t % 18446744073709551616, 0) := rfl
  have HV := Lib.hid hv
  have hb := numK_b 7 f t f0 f1 t0 t1
  clear hv
  generalize valK 7 f t = vk at *
  generalize numK 7 f t = v at *
  go_enter Tryz.func4, Tryz.ntmps4
  go_wp2_with (first
    | (go_at_call 13; ((with_reducible refine (HR.out _).mono ?_); rintro e w1 ⟨rfl, hb1⟩; have HB := Lib.hid hb1; clear hb1))
    | (go_at_call 33; ((with_reducible refine (HF.out _).mono ?_); rintro e w' ⟨rfl, rfl⟩)))
  all_goals go_ret2
  all_goals (refine ⟨?_, HB.out.alloc HB.out.size _⟩)
  all_goals clear HR HF hix HB
  all_goals rw [HV.out]
  all_goals clear HV
  all_goals (try simp_all [IntKind.wrap_u64])
  all_goals (try (rw [if_neg (by omega)]; first | exact ⟨rfl, rfl⟩ | (refine ⟨?_, rfl⟩; show v = v % 18446744073709551616; omega)))

set_option maxRecDepth 100000 in
set_option maxHeartbeats 4000000 in
theorem value8 (f t : Int) (w : World) (f0 : 0 ≤ f) (f1 : f < 18446744073709551616) (t0 : 0 ≤ t) (t1 : t < 18446744073709551616) : Calls Tryz.prog 4 #[.int .i64 8, .int .u64 f, .int .u64 t] w (RetB (two .u64 .i64 (valK 8 f t)) w) := by
  have HR : Hid (∀ w, Calls Tryz.prog 13 #[] w (RetB (.agg rulesC) w)) := Lib.hid fun w => rules_any w
  have HF : Hid (∀ w, Calls Tryz.prog 33 #[.int .u64 f, .int .u64 t] w (Ret (.int .i64 (numK 8 f t)) w)) := Lib.hid fun w => flow_any f t w t0 t1
  have hix : ∀ w, (Instr.index 37 (.agg rulesC) (.int .i64 8)).run Tryz.prog w = .ok (.agg #[.func (Fn.func 33) #[] #[], .int .i64 8, .int .i64 (0), .int .i64 4095]) w := fun w => by kernel_rfl
  have hv : valK 8 f t = if (numK 8 f t).tmod 8 ≠ 0 then (0, 5) else if numK 8 f t < 0 ∨ 4095 < numK 8 f t then (0, 4) else (numK 8 f t % 18446744073709551616, 0) := rfl
  have HV := Lib.hid hv
  have hb := numK_b 8 f t f0 f1 t0 t1
  clear hv
  generalize valK 8 f t = vk at *
  generalize numK 8 f t = v at *
  go_enter Tryz.func4, Tryz.ntmps4
  go_wp2_with (first
    | (go_at_call 13; ((with_reducible refine (HR.out _).mono ?_); rintro e w1 ⟨rfl, hb1⟩; have HB := Lib.hid hb1; clear hb1))
    | (go_at_call 33; ((with_reducible refine (HF.out _).mono ?_); rintro e w' ⟨rfl, rfl⟩)))
  all_goals go_ret2
  all_goals (refine ⟨?_, HB.out.alloc HB.out.size _⟩)
  all_goals clear HR HF hix HB
  all_goals rw [HV.out]
  all_goals clear HV
  all_goals (try simp_all [IntKind.wrap_u64])
  all_goals (try (rw [if_neg (by omega)]; first | exact ⟨rfl, rfl⟩ | (refine ⟨?_, rfl⟩; show v = v % 18446744073709551616; omega)))

set_option maxRecDepth 100000 in
set_option maxHeartbeats 4000000 in
theorem value9 (f t : Int) (w : World) (f0 : 0 ≤ f) (f1 : f < 18446744073709551616) (t0 : 0 ≤ t) (t1 : t < 18446744073709551616) : Calls Tryz.prog 4 #[.int .i64 9, .int .u64 f, .int .u64 t] w (RetB (two .u64 .i64 (valK 9 f t)) w) := by
  have HR : Hid (∀ w, Calls Tryz.prog 13 #[] w (RetB (.agg rulesC) w)) := Lib.hid fun w => rules_any w
  have HF : Hid (∀ w, Calls Tryz.prog 33 #[.int .u64 f, .int .u64 t] w (Ret (.int .i64 (numK 9 f t)) w)) := Lib.hid fun w => flow_any f t w t0 t1
  have hix : ∀ w, (Instr.index 37 (.agg rulesC) (.int .i64 9)).run Tryz.prog w = .ok (.agg #[.func (Fn.func 33) #[] #[], .int .i64 1, .int .i64 (0), .int .i64 4095]) w := fun w => by kernel_rfl
  have hv : valK 9 f t = if (numK 9 f t).tmod 1 ≠ 0 then (0, 5) else if numK 9 f t < 0 ∨ 4095 < numK 9 f t then (0, 4) else (numK 9 f t % 18446744073709551616, 0) := rfl
  have HV := Lib.hid hv
  have hb := numK_b 9 f t f0 f1 t0 t1
  clear hv
  generalize valK 9 f t = vk at *
  generalize numK 9 f t = v at *
  go_enter Tryz.func4, Tryz.ntmps4
  go_wp2_with (first
    | (go_at_call 13; ((with_reducible refine (HR.out _).mono ?_); rintro e w1 ⟨rfl, hb1⟩; have HB := Lib.hid hb1; clear hb1))
    | (go_at_call 33; ((with_reducible refine (HF.out _).mono ?_); rintro e w' ⟨rfl, rfl⟩)))
  all_goals go_ret2
  all_goals (refine ⟨?_, HB.out.alloc HB.out.size _⟩)
  all_goals clear HR HF hix HB
  all_goals rw [HV.out]
  all_goals clear HV
  all_goals (try simp_all [IntKind.wrap_u64])
  all_goals (try (rw [if_neg (by omega)]; first | exact ⟨rfl, rfl⟩ | (refine ⟨?_, rfl⟩; show v = v % 18446744073709551616; omega)))

set_option maxRecDepth 100000 in
set_option maxHeartbeats 4000000 in
theorem value1 (f t : Int) (w : World) (f0 : 0 ≤ f) (f1 : f < 18446744073709551616) (t0 : 0 ≤ t) (t1 : t < 18446744073709551616) : Calls Tryz.prog 4 #[.int .i64 1, .int .u64 f, .int .u64 t] w (RetB (two .u64 .i64 (t, 0)) w) := by
  go_enter Tryz.func4, Tryz.ntmps4
  go_wp2
  go_ret2
  exact ⟨rfl, Below.refl _ _⟩
set_option maxRecDepth 100000 in
set_option maxHeartbeats 4000000 in
theorem value_low (k f t : Int) (w : World) (h : k < 1) (k0 : -9223372036854775808 ≤ k) : Calls Tryz.prog 4 #[.int .i64 k, .int .u64 f, .int .u64 t] w (RetB (two .u64 .i64 (0, 1)) w) := by
  go_enter Tryz.func4, Tryz.ntmps4
  go_wp2
  go_ret2
  exact ⟨rfl, Below.refl _ _⟩
set_option maxRecDepth 100000 in
set_option maxHeartbeats 4000000 in
theorem value_high (k f t : Int) (w : World) (h : 9 < k) (k1 : k ≤ 9223372036854775807) : Calls Tryz.prog 4 #[.int .i64 k, .int .u64 f, .int .u64 t] w (RetB (two .u64 .i64 (0, 1)) w) := by
  have h' : ¬ k < 1 := by omega
  go_enter Tryz.func4, Tryz.ntmps4
  go_wp2
  go_ret2
  exact ⟨rfl, Below.refl _ _⟩
theorem Value_any (k f t : Int) (w : World) (k0 : -9223372036854775808 ≤ k) (k1 : k ≤ 9223372036854775807) (f0 : 0 ≤ f) (f1 : f < 18446744073709551616) (t0 : 0 ≤ t) (t1 : t < 18446744073709551616) : Calls Tryz.prog 4 #[.int .i64 k, .int .u64 f, .int .u64 t] w (RetB (two .u64 .i64 (valK k f t)) w) := by
  by_cases h : k < 1 ∨ 9 < k
  · have e : valK k f t = (0, 1) := by unfold valK; rw [if_pos h]
    rw [e]
    rcases h with h | h
    · exact value_low k f t w h k0
    · exact value_high k f t w h k1
  · have hc : k = 1 ∨ k = 2 ∨ k = 3 ∨ k = 4 ∨ k = 5 ∨ k = 6 ∨ k = 7 ∨ k = 8 ∨ k = 9 := by omega
    rcases hc with rfl | rfl | rfl | rfl | rfl | rfl | rfl | rfl | rfl
    · exact value1 f t w f0 f1 t0 t1
    · exact value2 f t w f0 f1 t0 t1
    · exact value3 f t w f0 f1 t0 t1
    · exact value4 f t w f0 f1 t0 t1
    · exact value5 f t w f0 f1 t0 t1
    · exact value6 f t w f0 f1 t0 t1
    · exact value7 f t w f0 f1 t0 t1
    · exact value8 f t w f0 f1 t0 t1
    · exact value9 f t w f0 f1 t0 t1
end Go.Proofs.YtdeigbdcipkaaaaGreatDoor
