/- operand: names. -/
import Derived.Test.YthejefldnpeciaaGreatDoorkON
import Derived.Test.YthejefldnpeciaaGreatDoorzL3
import Derived.Deep.QuietTactic
import Derived.BigQuiet
namespace Go.Proofs.YthejefldnpeciaaGreatDoor
set_option linter.unusedVariables false
set_option linter.unusedSimpArgs false
open Go.ChangeShapes Go.WideShapes Go.Deep Go.RowKit

/-- The digits of a number below 100. -/
def decL (n : Nat) : List UInt8 := if n < 10 then [UInt8.ofNat (48 + n)] else [UInt8.ofNat (48 + n / 10), UInt8.ofNat (48 + n % 10)]
theorem decL_dig {n : Nat} (h : n < 100) : digL 10 n = decL n := by
  unfold decL
  by_cases c : n < 10
  · rw [digL_small c, if_pos c]; unfold dgB; rw [if_pos c]
  · rw [digL_big (by omega) (by decide), digL_small (by omega), if_neg c]
    unfold dgB
    rw [if_pos (by omega), if_pos (by omega)]; rfl
theorem decL_val : ∀ n : Fin 31, valS (decL n.val) = ((n.val : Int), 0) := by decide +kernel
theorem decL_inj : ∀ n m : Fin 31, decL n.val = decL m.val → n = m := by decide +kernel
def regNm (n : Nat) : List UInt8 := 120 :: decL n
abbrev spB : List UInt8 := [115, 112]
abbrev xzB : List UInt8 := [120, 122, 114]
/-- A register's name: its number, whether it is the stack's, and the error. -/
def regL (s : List UInt8) : Int × Bool × Int :=
  if s = spB then (31, true, 0) else if s = xzB then (31, false, 0) else
    match (List.range 31).find? (fun n => decide (s = regNm n)) with
    | some n => ((n : Int), false, 0)
    | none => (0, false, 3)
def regTextL (n : Int) (st : Bool) : List UInt8 × Int :=
  if n < 0 ∨ n > 31 ∨ (st = true ∧ n ≠ 31) then ([], 1) else if st = true then (spB, 0) else if n = 31 then (xzB, 0) else (regNm n.toNat, 0)
theorem find_reg {s : List UInt8} {n : Nat} (hn : n < 31) (h : s = regNm n) : (List.range 31).find? (fun k => decide (s = regNm k)) = some n := by
  subst h
  have hm : n ∈ List.range 31 := List.mem_range.2 hn
  cases hf : (List.range 31).find? (fun k => decide (regNm n = regNm k)) with
  | none => exact absurd (List.find?_eq_none.1 hf n hm) (by simp)
  | some k =>
    have h1 := List.find?_some hf
    have h2 := List.mem_range.1 (List.mem_of_find?_eq_some hf)
    have h3 : regNm n = regNm k := of_decide_eq_true h1
    unfold regNm at h3
    have := decL_inj ⟨n, hn⟩ ⟨k, h2⟩ (List.cons.inj h3).2
    simp only [Fin.mk.injEq] at this
    rw [this]
theorem find_no {s : List UInt8} (h : ∀ n, n < 31 → s ≠ regNm n) : (List.range 31).find? (fun k => decide (s = regNm k)) = none :=
  List.find?_eq_none.2 fun n hn => by simpa using h n (List.mem_range.1 hn)
theorem nm_ne : ∀ n : Fin 31, regNm n.val ≠ spB ∧ regNm n.val ≠ xzB := by decide +kernel
theorem regL_at {s : List UInt8} {n : Nat} (hn : n < 31) (h : s = regNm n) : regL s = ((n : Int), false, 0) := by
  unfold regL
  have := nm_ne ⟨n, hn⟩
  rw [if_neg (by rw [h]; exact this.1), if_neg (by rw [h]; exact this.2), find_reg hn h]
theorem regL_no {s : List UInt8} (h1 : s ≠ spB) (h2 : s ≠ xzB) (h : ∀ n, n < 31 → s ≠ regNm n) : regL s = (0, false, 3) := by
  unfold regL
  rw [if_neg h1, if_neg h2, find_no h]
/-- Registers are told back. -/
theorem regL_cases (s : List UInt8) : (s = spB ∧ regL s = (31, true, 0)) ∨ (s = xzB ∧ regL s = (31, false, 0)) ∨ (∃ n, n < 31 ∧ s = regNm n ∧ regL s = ((n : Int), false, 0)) ∨ (s ≠ spB ∧ s ≠ xzB ∧ (∀ n, n < 31 → s ≠ regNm n) ∧ regL s = (0, false, 3)) := by
  by_cases h1 : s = spB
  · exact .inl ⟨h1, by unfold regL; rw [if_pos h1]⟩
  by_cases h2 : s = xzB
  · exact .inr (.inl ⟨h2, by unfold regL; rw [if_neg h1, if_pos h2]⟩)
  by_cases h3 : ∃ n, n < 31 ∧ s = regNm n
  · obtain ⟨n, hn, hs⟩ := h3
    exact .inr (.inr (.inl ⟨n, hn, hs, regL_at hn hs⟩))
  · have h4 : ∀ n, n < 31 → s ≠ regNm n := fun n hn hs => h3 ⟨n, hn, hs⟩
    exact .inr (.inr (.inr ⟨h1, h2, h4, regL_no h1 h2 h4⟩))
abbrev regV (r : Int × Bool × Int) : Value := .tuple #[.int .i64 r.1, .bool r.2.1, .int .i64 r.2.2]
theorem text_ba {n : Nat} (h : n < 100) : textB n = ⟨(decL n).toArray⟩ := by unfold textB; rw [decL_dig h]
theorem cat_list (a b : ByteArray) : (a ++ b).data.toList = a.data.toList ++ b.data.toList := by
  rw [ByteArray.data_append, Array.toList_append]
def shB (j : Nat) : List UInt8 := if j = 0 then [108, 115, 108] else if j = 1 then [108, 115, 114] else if j = 2 then [97, 115, 114] else [114, 111, 114]
/-- The tables of the layer. -/
def ShN (w : World) : Prop := ∀ j, j < 4 → w.cell? ⟨5, j, none⟩ = some (.string ⟨(shB j).toArray⟩)
def TabO (w : World) : Prop := RTab w ∧ Pow10 w ∧ ShN w
theorem ShN.next {w w' : World} (h : ShN w) (hb : Below w.heap.size w w') : ShN w' := fun j hj => by
  rw [hb.cell (p := ⟨5, j, none⟩) (cell_lt (h j hj))]; exact h j hj
theorem Pow10.next {w w' : World} (h : Pow10 w) (hb : Below w.heap.size w w') : Pow10 w' := Lib.tabBelow_of_tabIs h w' hb
theorem TabO.next {w w' : World} (h : TabO w) (hb : Below w.heap.size w w') : TabO w' := ⟨h.1.next hb, Pow10.next h.2.1 hb, h.2.2.next hb⟩
theorem lst_ne {s : ByteArray} {l : List UInt8} (h : s.data.toList ≠ l) : (s.toList == l) = false := by
  rw [beq_eq_false_iff_ne, ByteArray.toList_eq]; exact h
theorem trim_x {d : List UInt8} : Lib.trimPrefix (120 :: d) [120] = d ∧ Lib.hasPrefix (120 :: d) [120] = true := by
  constructor
  · unfold Lib.trimPrefix; rfl
  · rfl
theorem no_x {s : List UInt8} (h : Lib.hasPrefix s [120] = false) : ∀ d, s ≠ 120 :: d := by
  rintro d rfl
  rw [trim_x.2] at h; cases h
theorem has_x {s : List UInt8} (h : Lib.hasPrefix s [120] = true) : ∃ d, s = 120 :: d := by
  cases s with
  | nil => cases h
  | cons a t =>
    unfold Lib.hasPrefix at h
    simp only [List.isPrefixOf, Bool.and_true, beq_iff_eq] at h
    exact ⟨t, by rw [← h]⟩
theorem vf_lt {b : Nat} {l : List UInt8} {v x : Nat} (h : vf b l v = some x) (hv : v < 18446744073709551616) : x < 18446744073709551616 := by
  induction l generalizing v with
  | nil => rw [vf] at h; cases h; exact hv
  | cons c r ih =>
    rw [vf] at h
    split at h
    · rename_i c1; exact ih h c1
    · cases h
theorem valD_range (b : Nat) (l : List UInt8) : 0 ≤ (valD b l).1 ∧ (valD b l).1 < 18446744073709551616 ∧ ((valD b l).2 = 0 ∨ ((valD b l).1 = 0 ∧ ((valD b l).2 = 3 ∨ (valD b l).2 = 4))) := by
  unfold valD
  split
  · decide
  · split
    · rename_i v hv
      have := vf_lt hv (by decide)
      exact ⟨by simp only; omega, by simp only; omega, .inl rfl⟩
    · decide
theorem valS_range (l : List UInt8) : 0 ≤ (valS l).1 ∧ (valS l).1 < 18446744073709551616 ∧ ((valS l).2 = 0 ∨ ((valS l).1 = 0 ∧ ((valS l).2 = 3 ∨ (valS l).2 = 4))) := by
  unfold valS
  split
  · exact valD_range _ _
  · exact valD_range _ _
set_option maxRecDepth 100000 in
set_option maxHeartbeats 2000000 in
theorem Reg_any (s : ByteArray) (w : World) (hT : Pow10 w) : Calls Tryz.prog 85 #[.string s] w (RetB (regV (regL s.data.toList)) w) := by
  by_cases h1 : s.data.toList = spB
  · have hs : s = ⟨#[115, 112]⟩ := ba_ext h1
    subst hs
    have HE : Hid (regL (⟨#[115, 112]⟩ : ByteArray).data.toList = (31, true, 0)) := Lib.hid (by decide +kernel)
    clear hT h1
    go_enter Tryz.func85, Tryz.ntmps85
    go_wp2
    go_ret3
    exact ⟨by rw [HE.out]; rfl, Below.refl _ _⟩
  by_cases h2 : s.data.toList = xzB
  · have hs : s = ⟨#[120, 122, 114]⟩ := ba_ext h2
    subst hs
    have HE : Hid (regL (⟨#[120, 122, 114]⟩ : ByteArray).data.toList = (31, false, 0)) := Lib.hid (by decide +kernel)
    clear hT h1 h2
    go_enter Tryz.func85, Tryz.ntmps85
    go_wp2
    go_ret3
    exact ⟨by rw [HE.out]; rfl, Below.refl _ _⟩
  have n1 := lst_ne h1
  have n2 := lst_ne h2
  have HC : Hid (Calls Tryz.prog 101 #[.string s, .string ⟨#[120]⟩] w fun e w' => e = .returned (.tuple #[.string ⟨(Lib.trimPrefix s.data.toList [120]).toArray⟩, .bool (Lib.hasPrefix s.data.toList [120])]) ∧ w' = w) := Lib.hid (Tryz.strings_CutPrefix s ⟨#[120]⟩ w)
  cases hp : Lib.hasPrefix s.data.toList [120]
  · have HE : Hid (regL s.data.toList = (0, false, 3)) := Lib.hid (regL_no h1 h2 fun n hn => no_x hp _)
    rw [hp] at HC
    obtain ⟨D, hD⟩ : ∃ D : ByteArray, D = ⟨(Lib.trimPrefix s.data.toList [120]).toArray⟩ := ⟨_, rfl⟩
    rw [← hD] at HC
    have HV := Lib.hid (NValue_any D w)
    obtain ⟨p, hpv⟩ : ∃ p, p = valS D.data.toList := ⟨_, rfl⟩
    rw [← hpv] at HV
    clear hD hpv hT h1 h2 hp
    go_enter Tryz.func85, Tryz.ntmps85
    go_wp2_with fail
    refine HC.out.mono ?_
    rintro e w' ⟨rfl, rfl⟩
    go_wp2_with fail
    refine HV.out.mono ?_
    rintro e w1 ⟨rfl, hb⟩
    have HB := Lib.hid hb
    clear hb
    go_wp2
    go_ret3
    exact ⟨by rw [HE.out]; rfl, HB.out⟩
  · obtain ⟨d, hd⟩ := has_x hp
    rw [hp] at HC
    rw [hd, trim_x.1] at HC
    have HV := Lib.hid (NValue_any ⟨d.toArray⟩ w)
    rw [show (⟨d.toArray⟩ : ByteArray).data.toList = d from rfl] at HV
    obtain ⟨v, e0, hv⟩ : ∃ v e0, valS d = (v, e0) := ⟨_, _, rfl⟩
    rw [hv] at HV
    have hvb := valS_range d
    rw [hv] at hvb
    have hnm : ∀ n, n < 31 → s.data.toList = regNm n → v = n ∧ e0 = 0 ∧ d = decL n := fun n hn hs => by
      rw [hd] at hs
      have h3 := (List.cons.inj hs).2
      rw [h3, decL_val ⟨n, hn⟩] at hv
      simp only [Prod.mk.injEq] at hv
      exact ⟨hv.1.symm, hv.2.symm, h3⟩
    obtain ⟨D, hD⟩ : ∃ D : ByteArray, D = ⟨d.toArray⟩ := ⟨_, rfl⟩
    rw [← hD] at HC HV
    by_cases he : e0 = 0
    · by_cases hv30 : (30 : Int) < v
      · have HE : Hid (regL s.data.toList = (0, false, 3)) := Lib.hid (regL_no h1 h2 fun n hn hs => by have := (hnm n hn hs).1; omega)
        subst he
        clear hT h1 h2 hp hd hv hvb hnm hD
        go_enter Tryz.func85, Tryz.ntmps85
        go_wp2_with fail
        refine HC.out.mono ?_
        rintro e w' ⟨rfl, rfl⟩
        go_wp2_with fail
        refine HV.out.mono ?_
        rintro e w1 ⟨rfl, hb⟩
        have HB := Lib.hid hb
        clear hb
        go_wp2
        go_ret3
        exact ⟨by rw [HE.out]; rfl, HB.out⟩
      · obtain ⟨k, hk⟩ : ∃ k : Nat, v = k := ⟨v.toNat, by omega⟩
        subst hk
        have hk31 : k < 31 := by omega
        have HTX : Hid (∀ u, Pow10 u → Calls Tryz.prog 102 #[.int .u64 (k : Int)] u (RetB (.string ⟨(decL k).toArray⟩) u)) := Lib.hid fun u hu => by
          have := Text_any k u (by omega) hu
          rwa [text_ba (by omega)] at this
        have HT := Lib.hid hT
        have hw : IntKind.i64.wrap (k : Int) = k := by rw [IntKind.wrap_i64]; omega
        subst he
        by_cases hdk : decL k = d
        · have HE : Hid (regL s.data.toList = ((k : Int), false, 0)) := Lib.hid (regL_at hk31 (by rw [hd, ← hdk]; rfl))
          rw [hdk, ← hD] at HTX
          clear hT h1 h2 hp hd hv hvb hnm hD hdk hk31
          go_enter Tryz.func85, Tryz.ntmps85
          go_wp2_with fail
          refine HC.out.mono ?_
          rintro e w' ⟨rfl, rfl⟩
          go_wp2_with fail
          refine HV.out.mono ?_
          rintro e w1 ⟨rfl, hb⟩
          have HB := Lib.hid hb
          clear hb
          go_wp2_with fail
          refine (HTX.out _ (Pow10.next HT.out HB.out)).mono ?_
          rintro e w2 ⟨rfl, hb⟩
          have HB2 := Lib.hid (after HB.out hb)
          clear hb
          go_wp2
          go_ret3
          exact ⟨by rw [HE.out]; rfl, HB2.out⟩
        · have HE : Hid (regL s.data.toList = (0, false, 3)) := Lib.hid (regL_no h1 h2 fun n hn hs => by
            obtain ⟨q1, -, q3⟩ := hnm n hn hs
            have : k = n := by omega
            exact hdk (by rw [this, q3]))
          obtain ⟨K, hK⟩ : ∃ K : ByteArray, K = ⟨(decL k).toArray⟩ := ⟨_, rfl⟩
          rw [← hK] at HTX
          have hkd : (K.toList == D.toList) = false := by rw [beq_eq_false_iff_ne, ByteArray.toList_eq, ByteArray.toList_eq, hK, hD]; exact hdk
          have hkd2 : (K.toList != D.toList) = true := by rw [bne, hkd]; rfl
          clear hT h1 h2 hp hd hv hvb hnm hD hdk hk31 hK
          go_enter Tryz.func85, Tryz.ntmps85
          go_wp2_with fail
          refine HC.out.mono ?_
          rintro e w' ⟨rfl, rfl⟩
          go_wp2_with fail
          refine HV.out.mono ?_
          rintro e w1 ⟨rfl, hb⟩
          have HB := Lib.hid hb
          clear hb
          go_wp2_with fail
          refine (HTX.out _ (Pow10.next HT.out HB.out)).mono ?_
          rintro e w2 ⟨rfl, hb⟩
          have HB2 := Lib.hid (after HB.out hb)
          clear hb
          go_wp2
          go_ret3
          exact ⟨by rw [HE.out]; rfl, HB2.out⟩
    · have HE : Hid (regL s.data.toList = (0, false, 3)) := Lib.hid (regL_no h1 h2 fun n hn hs => he (hnm n hn hs).2.1)
      have hne : (e0 != 0) = true := by rw [bne_iff_ne]; exact he
      clear hT h1 h2 hp hd hv hvb hnm hD he
      go_enter Tryz.func85, Tryz.ntmps85
      go_wp2_with fail
      refine HC.out.mono ?_
      rintro e w' ⟨rfl, rfl⟩
      go_wp2_with fail
      refine HV.out.mono ?_
      rintro e w1 ⟨rfl, hb⟩
      have HB := Lib.hid hb
      clear hb
      go_wp2
      go_ret3
      exact ⟨by rw [HE.out]; rfl, HB.out⟩
def shiftL (s : List UInt8) : Int := if s = [108, 115, 108] then 0 else if s = [108, 115, 114] then 1 else if s = [97, 115, 114] then 2 else if s = [114, 111, 114] then 3 else -1
abbrev shV : Value := .agg #[.string ⟨#[108, 115, 108]⟩, .string ⟨#[108, 115, 114]⟩, .string ⟨#[97, 115, 114]⟩, .string ⟨#[114, 111, 114]⟩]
set_option maxRecDepth 100000 in
set_option maxHeartbeats 2000000 in
theorem shiftKind_any (s : ByteArray) (w : World) (hT : ShN w) : Calls Tryz.prog 62 #[.string s] w (Ret (.int .i64 (shiftL s.data.toList)) w) := by
  have c0 : w.cell? ⟨5, 0, none⟩ = some (.string ⟨#[108, 115, 108]⟩) := hT 0 (by omega)
  have c1 : w.cell? ⟨5, 1, none⟩ = some (.string ⟨#[108, 115, 114]⟩) := hT 1 (by omega)
  have c2 : w.cell? ⟨5, 2, none⟩ = some (.string ⟨#[97, 115, 114]⟩) := hT 2 (by omega)
  have c3 : w.cell? ⟨5, 3, none⟩ = some (.string ⟨#[114, 111, 114]⟩) := hT 3 (by omega)
  have i0 : ∀ w, (Instr.index 134 shV (.int .i64 0)).run Tryz.prog w = .ok (.string ⟨#[108, 115, 108]⟩) w := fun _ => by kernel_rfl
  have i1 : ∀ w, (Instr.index 134 shV (.int .i64 1)).run Tryz.prog w = .ok (.string ⟨#[108, 115, 114]⟩) w := fun _ => by kernel_rfl
  have i2 : ∀ w, (Instr.index 134 shV (.int .i64 2)).run Tryz.prog w = .ok (.string ⟨#[97, 115, 114]⟩) w := fun _ => by kernel_rfl
  have i3 : ∀ w, (Instr.index 134 shV (.int .i64 3)).run Tryz.prog w = .ok (.string ⟨#[114, 111, 114]⟩) w := fun _ => by kernel_rfl
  clear hT
  have hc : (∃ r : Int, (s = ⟨#[108, 115, 108]⟩ ∧ r = 0) ∨ (s = ⟨#[108, 115, 114]⟩ ∧ r = 1) ∨ (s = ⟨#[97, 115, 114]⟩ ∧ r = 2) ∨ (s = ⟨#[114, 111, 114]⟩ ∧ r = 3)) ∨ (s.data.toList ≠ [108, 115, 108] ∧ s.data.toList ≠ [108, 115, 114] ∧ s.data.toList ≠ [97, 115, 114] ∧ s.data.toList ≠ [114, 111, 114]) := by
    by_cases h0 : s.data.toList = [108, 115, 108]
    · exact .inl ⟨_, .inl ⟨ba_ext h0, rfl⟩⟩
    by_cases h1 : s.data.toList = [108, 115, 114]
    · exact .inl ⟨_, .inr (.inl ⟨ba_ext h1, rfl⟩)⟩
    by_cases h2 : s.data.toList = [97, 115, 114]
    · exact .inl ⟨_, .inr (.inr (.inl ⟨ba_ext h2, rfl⟩))⟩
    by_cases h3 : s.data.toList = [114, 111, 114]
    · exact .inl ⟨_, .inr (.inr (.inr ⟨ba_ext h3, rfl⟩))⟩
    exact .inr ⟨h0, h1, h2, h3⟩
  rcases hc with ⟨r, ⟨rfl, rfl⟩ | ⟨rfl, rfl⟩ | ⟨rfl, rfl⟩ | ⟨rfl, rfl⟩⟩ | ⟨h0, h1, h2, h3⟩
  rotate_left 4
  · have n0 := lst_ne h0
    have n1 := lst_ne h1
    have n2 := lst_ne h2
    have n3 := lst_ne h3
    have HE : Hid (shiftL s.data.toList = -1) := Lib.hid (by unfold shiftL; rw [if_neg h0, if_neg h1, if_neg h2, if_neg h3])
    clear h0 h1 h2 h3
    go_enter Tryz.func62, Tryz.ntmps62
    go_wp2
    refine wp_loop_rounds 5 ?_
    rw [rounds_succ]
    go_wp2
    all_goals (try (rw [rounds_succ]; go_wp2))
    all_goals (try (rw [rounds_succ]; go_wp2))
    all_goals (try (rw [rounds_succ]; go_wp2))
    all_goals (try (rw [rounds_succ]; go_wp2))
    all_goals (go_ret; exact ⟨by rw [HE.out]; rfl, rfl⟩)
  all_goals
    go_enter Tryz.func62, Tryz.ntmps62
    go_wp2
    refine wp_loop_rounds 5 ?_
    rw [rounds_succ]
    go_wp2
    all_goals (try (rw [rounds_succ]; go_wp2))
    all_goals (try (rw [rounds_succ]; go_wp2))
    all_goals (try (rw [rounds_succ]; go_wp2))
    all_goals (try (rw [rounds_succ]; go_wp2))
    all_goals (go_ret; exact ⟨rfl, rfl⟩)
def isNmL (s : List UInt8) : Bool := isWordL s && decide ((regL s).2.2 ≠ 0) && decide (shiftL s < 0)
set_option maxRecDepth 100000 in
set_option maxHeartbeats 2000000 in
theorem isName_any (s : ByteArray) (hs : s.size ≤ maxLen) (w : World) (hT : TabO w) : Calls Tryz.prog 87 #[.string s] w (RetB (.bool (isNmL s.data.toList)) w) := by
  have HR := Lib.hid (Reg_any s w hT.2.1)
  have HW := Lib.hid (fun u => IsWord_any s hs u)
  have HK : Hid (∀ u, TabO u → Calls Tryz.prog 62 #[.string s] u (Ret (.int .i64 (shiftL s.data.toList)) u)) := Lib.hid fun u hu => shiftKind_any s u hu.2.2
  have HT := Lib.hid hT
  obtain ⟨r, hr⟩ : ∃ r, r = regL s.data.toList := ⟨_, rfl⟩
  obtain ⟨b, hb⟩ : ∃ b, b = isWordL s.data.toList := ⟨_, rfl⟩
  obtain ⟨k, hk⟩ : ∃ k, k = shiftL s.data.toList := ⟨_, rfl⟩
  have HE : Hid (isNmL s.data.toList = (b && decide (r.2.2 ≠ 0) && decide (k < 0))) := Lib.hid (by unfold isNmL; rw [← hr, ← hb, ← hk])
  rw [← hr] at HR
  rw [← hb] at HW
  rw [← hk] at HK
  obtain ⟨n, st, e0⟩ := r
  clear hT hs hr hb hk
  cases b
  · go_enter Tryz.func87, Tryz.ntmps87
    go_wp2_with fail
    refine HR.out.mono ?_
    rintro e w1 ⟨rfl, hb⟩
    have HB1 := Lib.hid hb
    clear hb
    go_wp2_with fail
    refine (HW.out _).mono ?_
    rintro e w2 ⟨rfl, hb⟩
    have HB2 := Lib.hid (after HB1.out hb)
    clear hb
    go_wp2
    go_ret
    exact ⟨by rw [HE.out]; rfl, HB2.out⟩
  · by_cases he : e0 = 0
    · subst he
      go_enter Tryz.func87, Tryz.ntmps87
      go_wp2_with fail
      refine HR.out.mono ?_
      rintro e w1 ⟨rfl, hb⟩
      have HB1 := Lib.hid hb
      clear hb
      go_wp2_with fail
      refine (HW.out _).mono ?_
      rintro e w2 ⟨rfl, hb⟩
      have HB2 := Lib.hid (after HB1.out hb)
      clear hb
      go_wp2
      go_ret
      exact ⟨by rw [HE.out]; rfl, HB2.out⟩
    · have hne : (e0 != 0) = true := by rw [bne_iff_ne]; exact he
      replace HE : Hid (isNmL s.data.toList = decide (k < 0)) := Lib.hid (by rw [HE.out, decide_eq_true he]; simp)
      clear he
      go_enter Tryz.func87, Tryz.ntmps87
      go_wp2_with fail
      refine HR.out.mono ?_
      rintro e w1 ⟨rfl, hb⟩
      have HB1 := Lib.hid hb
      clear hb
      go_wp2_with fail
      refine (HW.out _).mono ?_
      rintro e w2 ⟨rfl, hb⟩
      have HB2 := Lib.hid (after HB1.out hb)
      clear hb
      go_wp2_with fail
      refine (HK.out _ (HT.out.next HB2.out)).mono ?_
      rintro e w3 ⟨rfl, rfl⟩
      go_wp2
      go_ret
      exact ⟨by rw [HE.out]; rfl, HB2.out⟩
open Go.ChangeShapes Go.WideShapes Go.Deep Go.RowKit

def isDg (c : UInt8) : Bool := decide (48 ≤ c.toNat) && decide (c.toNat ≤ 57)
def labV : List UInt8 → Nat → Option Nat
  | [], n => some n
  | c :: t, n => if isDg c = true then labV t (10 * n + (c.toNat - 48)) else none
/-- A local label: its number, and whether it is upward. -/
def labelL (s : List UInt8) : Option (Nat × Bool) :=
  if s.length < 2 ∨ 5 < s.length then none else
    match s.getLast? with
    | none => none
    | some c => if c = 102 ∨ c = 98 then (match labV s.dropLast 0 with | none => none | some n => some (n, c == 102)) else none
def labelV (o : Option (Nat × Bool)) : Value := match o with | none => .tuple #[.int .i64 0, .bool false, .bool false] | some (n, u) => .tuple #[.int .i64 (n : Int), .bool u, .bool true]
theorem labelL_len {s : List UInt8} (h : s.length < 2 ∨ 5 < s.length) : labelL s = none := by unfold labelL; rw [if_pos h]
set_option maxRecDepth 100000 in
set_option maxHeartbeats 2000000 in
theorem Label_any (s : ByteArray) (hs : s.size ≤ maxLen) (w : World) : Calls Tryz.prog 86 #[.string s] w (RetD (labelV (labelL s.data.toList)) w) := by
  have hlen : s.data.toList.length = s.size := by simp
  have hs9 : (s.size : Int) ≤ 9223372036854775807 := by unfold maxLen at hs; omega
  by_cases h1 : s.size < 2
  · have h1z : (s.size : Int) < 2 := by omega
    have HE : Hid (labelL s.data.toList = none) := Lib.hid (labelL_len (.inl (by omega)))
    clear hs hlen h1
    go_enter Tryz.func86, Tryz.ntmps86
    go_wp2
    go_ret3
    exact ⟨by rw [HE.out]; rfl, 0, rfl⟩
  by_cases h2 : 5 < s.size
  · have h1z : ¬ (s.size : Int) < 2 := by omega
    have h2z : (5 : Int) < (s.size : Int) := by omega
    have HE : Hid (labelL s.data.toList = none) := Lib.hid (labelL_len (.inr (by omega)))
    clear hs hlen h1 h2
    go_enter Tryz.func86, Tryz.ntmps86
    go_wp2
    go_ret3
    exact ⟨by rw [HE.out]; rfl, 0, rfl⟩
  have h1z : ¬ (s.size : Int) < 2 := by omega
  have h2z : ¬ (5 : Int) < (s.size : Int) := by omega
  obtain ⟨m, hm⟩ : ∃ m, s.size = m + 1 := ⟨s.size - 1, by omega⟩
  have hmz : IntKind.i64.wrap ((s.size : Int) - 1) = (m : Int) := by rw [IntKind.wrap_i64]; omega
  have hm0 : (0 : Int) ≤ m := by omega
  have hmn : (m : Int) ≤ (s.size : Int) := by omega
  have hmn2 : (m : Int) < (s.size : Int) := by omega
  have HM := Lib.hid (And.intro hm hlen)
  have hne : ¬ s.toList = [] := fun h => by
    have := congrArg List.length h
    rw [ByteArray.toList_eq, hlen] at this
    simp only [List.length_nil] at this; omega
  obtain ⟨D, hD⟩ : ∃ D, s.extract 0 m = D := ⟨_, rfl⟩
  have hml : m < s.size := by omega
  obtain ⟨c, hc⟩ : ∃ c : UInt8, s[m]'hml = c := ⟨_, rfl⟩
  have hDl : D.data.toList = s.data.toList.take m := by
    rw [← hD, ByteArray.data_extract, Array.toList_extract]; simp [List.extract]
  have hDz : D.size = m := by
    have : D.data.toList.length = m := by rw [hDl, List.length_take]; omega
    rw [← this]; simp
  have hsplit : s.data.toList = D.data.toList ++ [c] := by
    rw [hDl, ← hc]
    have := List.take_append_drop m s.data.toList
    rw [get_drop (by omega), List.drop_eq_nil_of_le (by omega)] at this
    exact this.symm
  have hLE : labelL s.data.toList = if c = 102 ∨ c = 98 then (match labV D.data.toList 0 with | none => none | some n => some (n, c == 102)) else none := by
    unfold labelL
    rw [if_neg (by omega), hsplit, List.getLast?_append]
    simp
  have HLE := Lib.hid hLE
  have HDZ := Lib.hid hDz
  have hm5 : (m : Int) ≤ 4 := by omega
  clear hs hlen h1 h2 hm hDl hsplit hLE
  by_cases c1 : c = 102 ∨ c = 98
  · have HL2 : Hid (labelL s.data.toList = (match labV D.data.toList 0 with | none => none | some n => some (n, c == 102))) := Lib.hid (by rw [HLE.out, if_pos c1])
    rcases c1 with rfl | rfl
    all_goals
      go_enter Tryz.func86, Tryz.ntmps86
      go_wp2
      go_quiet (fail)
      go_wp2
      clear hmz hmn hmn2 hD hc hne h1z h2z
      go_loopg [7, 35] (m) (fun g nv iv wl => ∃ k n : Nat, nv = .int .i64 (n : Int) ∧ iv = .int .i64 (k : Int) ∧ k ≤ m ∧ n < 10 ^ k ∧ Hid (labV D.data.toList 0 = labV (D.data.toList.drop k) n) ∧ Hid (g = m - k) ∧ Hid (∃ q, wl = w.drewN q))
      case atStart => exact ⟨0, 0, rfl, rfl, by omega, by decide, Lib.hid (by rw [List.drop_zero]), Lib.hid rfl, Lib.hid ⟨_, rfl⟩⟩
      case round =>
        obtain ⟨k, n, rfl, rfl, hk, hn, HA, HG, HW⟩ := hrel
        by_cases hlt : k < m
        · have hlt2 : k < D.size := by rw [hDz]; exact hlt
          obtain ⟨x, hx⟩ : ∃ x : UInt8, D[k] = x := ⟨_, rfl⟩
          have hdr := get_drop hlt2
          rw [hx] at hdr
          have hltz : (k : Int) < (m : Int) := by omega
          have HDR := Lib.hid hdr
          have hx256 : x.toNat < 256 := x.toNat_lt
          have hn4 : n < 10000 := by
            have : (10 : Nat) ^ k ≤ 10 ^ 4 := Nat.pow_le_pow_right (by decide) (by omega)
            omega
          have HN := Lib.hid hn
          clear hdr hn
          by_cases hd : 48 ≤ x.toNat ∧ x.toNat ≤ 57
          · obtain ⟨d, hdd⟩ : ∃ d, d = x.toNat - 48 := ⟨_, rfl⟩
            have HC : Hid (labV D.data.toList 0 = labV (D.data.toList.drop (k + 1)) (10 * n + d)) := Lib.hid (by
              rw [HA.out, HDR.out, labV, if_pos (by unfold isDg; simp [hd.1, hd.2]), hdd])
            have HN2 : Hid (10 * n + d < 10 ^ (k + 1)) := Lib.hid (by have := HN.out; rw [Nat.pow_succ]; omega)
            have l1 : ¬ ((x.toNat : Int) < 48) := by omega
            have l2 : ¬ ((57 : Int) < (x.toNat : Int)) := by omega
            have w1 : IntKind.i64.wrap (10 * (n : Int)) = 10 * (n : Int) := by rw [IntKind.wrap_i64]; omega
            have w2 : IntKind.u8.wrap ((x.toNat : Int) - 48) = (d : Int) := by rw [IntKind.wrap_u8]; omega
            have w3 : IntKind.i64.wrap (d : Int) = (d : Int) := by rw [IntKind.wrap_i64]; omega
            have w4 : IntKind.i64.wrap (10 * (n : Int) + (d : Int)) = ((10 * n + d : Nat) : Int) := by rw [IntKind.wrap_i64]; omega
            clear hd hdd hx256 hn4
            go_wp2
            go_roundg (m - (k + 1))
            case measure => have := HG.out; omega
            case rel => exact ⟨k + 1, 10 * n + d, by first | rfl | (congr 1; omega), by go_num, by omega, HN2.out, HC, Lib.hid rfl, HW⟩
          · have HC : Hid (labelL s.data.toList = none) := Lib.hid (by
              rw [HL2.out, HA.out, HDR.out, labV, if_neg (by unfold isDg; simp; omega)])
            have HQ := HW.out
            by_cases l1 : (x.toNat : Int) < 48
            · clear hd hx256 hn4
              go_wp2
              go_ret3
              exact ⟨by rw [HC.out]; rfl, HW.out⟩
            · have l2 : (57 : Int) < (x.toNat : Int) := by omega
              clear hd hx256 hn4
              go_wp2
              go_ret3
              exact ⟨by rw [HC.out]; rfl, HW.out⟩
        · have hltz : ¬ (k : Int) < (m : Int) := by omega
          have HC : Hid (labV D.data.toList 0 = some n) := Lib.hid (by
            rw [HA.out, List.drop_eq_nil_of_le (by
              have := HDZ.out
              have h2 : D.data.toList.length = D.size := by simp
              omega), labV])
          go_wp2
          go_ret3
          exact ⟨by rw [HL2.out, HC.out]; rfl, HW.out⟩
  · have HL2 : Hid (labelL s.data.toList = none) := Lib.hid (by rw [HLE.out, if_neg c1])
    have hc256 : c.toNat < 256 := c.toNat_lt
    have d1 : ((c.toNat : Int) != 102) = true := by
      rw [bne_iff_ne]; intro h
      exact c1 (.inl (UInt8.toNat_inj.1 (by show c.toNat = 102; omega)))
    have d2 : ((c.toNat : Int) != 98) = true := by
      rw [bne_iff_ne]; intro h
      exact c1 (.inr (UInt8.toNat_inj.1 (by show c.toNat = 98; omega)))
    clear c1 hc256
    go_enter Tryz.func86, Tryz.ntmps86
    go_wp2
    go_quiet (fail)
    go_wp2
    go_ret3
    exact ⟨by rw [HL2.out]; rfl, _, rfl⟩
end Go.Proofs.YthejefldnpeciaaGreatDoor
