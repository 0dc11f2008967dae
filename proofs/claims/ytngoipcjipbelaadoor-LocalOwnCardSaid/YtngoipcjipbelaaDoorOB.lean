/- operand: Reg, shiftKind, isName. -/
import Derived.Test.YtngoipcjipbelaaDoorOA
namespace Go.Proofs.YtngoipcjipbelaaDoor
set_option linter.unusedVariables false
set_option linter.unusedSimpArgs false
open Go.ChangeShapes Go.WideShapes Go.Deep Go.RowKit

def shB (j : Nat) : List UInt8 := if j = 0 then [108, 115, 108] else if j = 1 then [108, 115, 114] else if j = 2 then [97, 115, 114] else [114, 111, 114]
/-- The tables of the layer. -/
def ShN (w : World) : Prop := ∀ j, j < 4 → w.cell? ⟨2, j, none⟩ = some (.string ⟨(shB j).toArray⟩)
def TabO (w : World) : Prop := Tab w ∧ Pow10 w ∧ ShN w
theorem ShN.next {w w' : World} (h : ShN w) (hb : Below w.heap.size w w') : ShN w' := fun j hj => by
  rw [hb.cell (p := ⟨2, j, none⟩) (cell_lt (h j hj))]; exact h j hj
theorem Pow10.next {w w' : World} (h : Pow10 w) (hb : Below w.heap.size w w') : Pow10 w' := Lib.tabBelow_of_tabIs h w' hb
theorem TabO.next {w w' : World} (h : TabO w) (hb : Below w.heap.size w w') : TabO w' := ⟨h.1.next hb, Pow10.next h.2.1 hb, h.2.2.next hb⟩
theorem lst_ne {s : ByteArray} {l : List UInt8} (h : s.data.toList ≠ l) : (s.toList == l) = false := by
  rw [beq_eq_false_iff_ne, ByteArray.toList_eq]; exact h
theorem trim_x {d : List UInt8} : Lib.trimPrefix (120 :: d) [120] = d ∧ Lib.hasPrefix (120 :: d) [120] = true := by
  constructor
  · unfold Lib.trimPrefix; rfl
  · rfl
theorem no_x {s : List UInt8} (h : Lib.hasPrefix s [120] = false) : ∀ d, s ≠ 120 :: d := by
  rintro d rfl
  rw [trim_x.2] at h; cases h
theorem has_x {s : List UInt8} (h : Lib.hasPrefix s [120] = true) : ∃ d, s = 120 :: d := by
  cases s with
  | nil => cases h
  | cons a t =>
    unfold Lib.hasPrefix at h
    simp only [List.isPrefixOf, Bool.and_true, beq_iff_eq] at h
    exact ⟨t, by rw [← h]⟩
theorem vf_lt {b : Nat} {l : List UInt8} {v x : Nat} (h : vf b l v = some x) (hv : v < 18446744073709551616) : x < 18446744073709551616 := by
  induction l generalizing v with
  | nil => rw [vf] at h; cases h; exact hv
  | cons c r ih =>
    rw [vf] at h
    split at h
    · rename_i c1; exact ih h c1
    · cases h
theorem valD_range (b : Nat) (l : List UInt8) : 0 ≤ (valD b l).1 ∧ (valD b l).1 < 18446744073709551616 ∧ ((valD b l).2 = 0 ∨ ((valD b l).1 = 0 ∧ ((valD b l).2 = 3 ∨ (valD b l).2 = 4))) := by
  unfold valD
  split
  · decide
  · split
    · rename_i v hv
      have := vf_lt hv (by decide)
      exact ⟨by simp only; omega, by simp only; omega, .inl rfl⟩
    · decide
theorem valS_range (l : List UInt8) : 0 ≤ (valS l).1 ∧ (valS l).1 < 18446744073709551616 ∧ ((valS l).2 = 0 ∨ ((valS l).1 = 0 ∧ ((valS l).2 = 3 ∨ (valS l).2 = 4))) := by
  unfold valS
  split
  · exact valD_range _ _
  · exact valD_range _ _
set_option maxRecDepth 100000 in
set_option maxHeartbeats 2000000 in
theorem Reg_any (s : ByteArray) (w : World) (hT : Pow10 w) : Calls Tryd.prog 20 #[.string s] w (RetB (regV (regL s.data.toList)) w) := by
  by_cases h1 : s.data.toList = spB
  · have hs : s = ⟨#[115, 112]⟩ := ba_ext h1
    subst hs
    have HE : Hid (regL (⟨#[115, 112]⟩ : ByteArray).data.toList = (31, true, 0)) := Lib.hid (by decide +kernel)
    clear hT h1
    go_enter Tryd.func20, Tryd.ntmps20
    go_wp2
    go_ret3
    exact ⟨by rw [HE.out]; rfl, Below.refl _ _⟩
  by_cases h2 : s.data.toList = xzB
  · have hs : s = ⟨#[120, 122, 114]⟩ := ba_ext h2
    subst hs
    have HE : Hid (regL (⟨#[120, 122, 114]⟩ : ByteArray).data.toList = (31, false, 0)) := Lib.hid (by decide +kernel)
    clear hT h1 h2
    go_enter Tryd.func20, Tryd.ntmps20
    go_wp2
    go_ret3
    exact ⟨by rw [HE.out]; rfl, Below.refl _ _⟩
  have n1 := lst_ne h1
  have n2 := lst_ne h2
  have HC : Hid (Calls Tryd.prog 45 #[.string s, .string ⟨#[120]⟩] w fun e w' => e = .returned (.tuple #[.string ⟨(Lib.trimPrefix s.data.toList [120]).toArray⟩, .bool (Lib.hasPrefix s.data.toList [120])]) ∧ w' = w) := Lib.hid (Tryd.strings_CutPrefix s ⟨#[120]⟩ w)
  cases hp : Lib.hasPrefix s.data.toList [120]
  · have HE : Hid (regL s.data.toList = (0, false, 3)) := Lib.hid (regL_no h1 h2 fun n hn => no_x hp _)
    rw [hp] at HC
    obtain ⟨D, hD⟩ : ∃ D : ByteArray, D = ⟨(Lib.trimPrefix s.data.toList [120]).toArray⟩ := ⟨_, rfl⟩
    rw [← hD] at HC
    have HV := Lib.hid (Value_any D w)
    obtain ⟨p, hpv⟩ : ∃ p, p = valS D.data.toList := ⟨_, rfl⟩
    rw [← hpv] at HV
    clear hD hpv hT h1 h2 hp
    go_enter Tryd.func20, Tryd.ntmps20
    go_wp2_with fail
    refine HC.out.mono ?_
    rintro e w' ⟨rfl, rfl⟩
    go_wp2_with fail
    refine HV.out.mono ?_
    rintro e w1 ⟨rfl, hb⟩
    have HB := Lib.hid hb
    clear hb
    go_wp2
    go_ret3
    exact ⟨by rw [HE.out]; rfl, HB.out⟩
  · obtain ⟨d, hd⟩ := has_x hp
    rw [hp] at HC
    rw [hd, trim_x.1] at HC
    have HV := Lib.hid (Value_any ⟨d.toArray⟩ w)
    rw [show (⟨d.toArray⟩ : ByteArray).data.toList = d from rfl] at HV
    obtain ⟨v, e0, hv⟩ : ∃ v e0, valS d = (v, e0) := ⟨_, _, rfl⟩
    rw [hv] at HV
    have hvb := valS_range d
    rw [hv] at hvb
    have hnm : ∀ n, n < 31 → s.data.toList = regNm n → v = n ∧ e0 = 0 ∧ d = decL n := fun n hn hs => by
      rw [hd] at hs
      have h3 := (List.cons.inj hs).2
      rw [h3, decL_val ⟨n, hn⟩] at hv
      simp only [Prod.mk.injEq] at hv
      exact ⟨hv.1.symm, hv.2.symm, h3⟩
    obtain ⟨D, hD⟩ : ∃ D : ByteArray, D = ⟨d.toArray⟩ := ⟨_, rfl⟩
    rw [← hD] at HC HV
    by_cases he : e0 = 0
    · by_cases hv30 : (30 : Int) < v
      · have HE : Hid (regL s.data.toList = (0, false, 3)) := Lib.hid (regL_no h1 h2 fun n hn hs => by have := (hnm n hn hs).1; omega)
        subst he
        clear hT h1 h2 hp hd hv hvb hnm hD
        go_enter Tryd.func20, Tryd.ntmps20
        go_wp2_with fail
        refine HC.out.mono ?_
        rintro e w' ⟨rfl, rfl⟩
        go_wp2_with fail
        refine HV.out.mono ?_
        rintro e w1 ⟨rfl, hb⟩
        have HB := Lib.hid hb
        clear hb
        go_wp2
        go_ret3
        exact ⟨by rw [HE.out]; rfl, HB.out⟩
      · obtain ⟨k, hk⟩ : ∃ k : Nat, v = k := ⟨v.toNat, by omega⟩
        subst hk
        have hk31 : k < 31 := by omega
        have HTX : Hid (∀ u, Pow10 u → Calls Tryd.prog 47 #[.int .u64 (k : Int)] u (RetB (.string ⟨(decL k).toArray⟩) u)) := Lib.hid fun u hu => by
          have := Text_any k u (by omega) hu
          rwa [text_ba (by omega)] at this
        have HT := Lib.hid hT
        have hw : IntKind.i64.wrap (k : Int) = k := by rw [IntKind.wrap_i64]; omega
        subst he
        by_cases hdk : decL k = d
        · have HE : Hid (regL s.data.toList = ((k : Int), false, 0)) := Lib.hid (regL_at hk31 (by rw [hd, ← hdk]; rfl))
          rw [hdk, ← hD] at HTX
          clear hT h1 h2 hp hd hv hvb hnm hD hdk hk31
          go_enter Tryd.func20, Tryd.ntmps20
          go_wp2_with fail
          refine HC.out.mono ?_
          rintro e w' ⟨rfl, rfl⟩
          go_wp2_with fail
          refine HV.out.mono ?_
          rintro e w1 ⟨rfl, hb⟩
          have HB := Lib.hid hb
          clear hb
          go_wp2_with fail
          refine (HTX.out _ (Pow10.next HT.out HB.out)).mono ?_
          rintro e w2 ⟨rfl, hb⟩
          have HB2 := Lib.hid (after HB.out hb)
          clear hb
          go_wp2
          go_ret3
          exact ⟨by rw [HE.out]; rfl, HB2.out⟩
        · have HE : Hid (regL s.data.toList = (0, false, 3)) := Lib.hid (regL_no h1 h2 fun n hn hs => by
            obtain ⟨q1, -, q3⟩ := hnm n hn hs
            have : k = n := by omega
            exact hdk (by rw [this, q3]))
          obtain ⟨K, hK⟩ : ∃ K : ByteArray, K = ⟨(decL k).toArray⟩ := ⟨_, rfl⟩
          rw [← hK] at HTX
          have hkd : (K.toList == D.toList) = false := by rw [beq_eq_false_iff_ne, ByteArray.toList_eq, ByteArray.toList_eq, hK, hD]; exact hdk
          have hkd2 : (K.toList != D.toList) = true := by rw [bne, hkd]; rfl
          clear hT h1 h2 hp hd hv hvb hnm hD hdk hk31 hK
          go_enter Tryd.func20, Tryd.ntmps20
          go_wp2_with fail
          refine HC.out.mono ?_
          rintro e w' ⟨rfl, rfl⟩
          go_wp2_with fail
          refine HV.out.mono ?_
          rintro e w1 ⟨rfl, hb⟩
          have HB := Lib.hid hb
          clear hb
          go_wp2_with fail
          refine (HTX.out _ (Pow10.next HT.out HB.out)).mono ?_
          rintro e w2 ⟨rfl, hb⟩
          have HB2 := Lib.hid (after HB.out hb)
          clear hb
          go_wp2
          go_ret3
          exact ⟨by rw [HE.out]; rfl, HB2.out⟩
    · have HE : Hid (regL s.data.toList = (0, false, 3)) := Lib.hid (regL_no h1 h2 fun n hn hs => he (hnm n hn hs).2.1)
      have hne : (e0 != 0) = true := by rw [bne_iff_ne]; exact he
      clear hT h1 h2 hp hd hv hvb hnm hD he
      go_enter Tryd.func20, Tryd.ntmps20
      go_wp2_with fail
      refine HC.out.mono ?_
      rintro e w' ⟨rfl, rfl⟩
      go_wp2_with fail
      refine HV.out.mono ?_
      rintro e w1 ⟨rfl, hb⟩
      have HB := Lib.hid hb
      clear hb
      go_wp2
      go_ret3
      exact ⟨by rw [HE.out]; rfl, HB.out⟩
def shiftL (s : List UInt8) : Int := if s = [108, 115, 108] then 0 else if s = [108, 115, 114] then 1 else if s = [97, 115, 114] then 2 else if s = [114, 111, 114] then 3 else -1
abbrev shV : Value := .agg #[.string ⟨#[108, 115, 108]⟩, .string ⟨#[108, 115, 114]⟩, .string ⟨#[97, 115, 114]⟩, .string ⟨#[114, 111, 114]⟩]
set_option maxRecDepth 100000 in
set_option maxHeartbeats 2000000 in
theorem shiftKind_any (s : ByteArray) (w : World) (hT : ShN w) : Calls Tryd.prog 75 #[.string s] w (Ret (.int .i64 (shiftL s.data.toList)) w) := by
  have c0 : w.cell? ⟨2, 0, none⟩ = some (.string ⟨#[108, 115, 108]⟩) := hT 0 (by omega)
  have c1 : w.cell? ⟨2, 1, none⟩ = some (.string ⟨#[108, 115, 114]⟩) := hT 1 (by omega)
  have c2 : w.cell? ⟨2, 2, none⟩ = some (.string ⟨#[97, 115, 114]⟩) := hT 2 (by omega)
  have c3 : w.cell? ⟨2, 3, none⟩ = some (.string ⟨#[114, 111, 114]⟩) := hT 3 (by omega)
  have i0 : ∀ w, (Instr.index 129 shV (.int .i64 0)).run Tryd.prog w = .ok (.string ⟨#[108, 115, 108]⟩) w := fun _ => by kernel_rfl
  have i1 : ∀ w, (Instr.index 129 shV (.int .i64 1)).run Tryd.prog w = .ok (.string ⟨#[108, 115, 114]⟩) w := fun _ => by kernel_rfl
  have i2 : ∀ w, (Instr.index 129 shV (.int .i64 2)).run Tryd.prog w = .ok (.string ⟨#[97, 115, 114]⟩) w := fun _ => by kernel_rfl
  have i3 : ∀ w, (Instr.index 129 shV (.int .i64 3)).run Tryd.prog w = .ok (.string ⟨#[114, 111, 114]⟩) w := fun _ => by kernel_rfl
  clear hT
  have hc : (∃ r : Int, (s = ⟨#[108, 115, 108]⟩ ∧ r = 0) ∨ (s = ⟨#[108, 115, 114]⟩ ∧ r = 1) ∨ (s = ⟨#[97, 115, 114]⟩ ∧ r = 2) ∨ (s = ⟨#[114, 111, 114]⟩ ∧ r = 3)) ∨ (s.data.toList ≠ [108, 115, 108] ∧ s.data.toList ≠ [108, 115, 114] ∧ s.data.toList ≠ [97, 115, 114] ∧ s.data.toList ≠ [114, 111, 114]) := by
    by_cases h0 : s.data.toList = [108, 115, 108]
    · exact .inl ⟨_, .inl ⟨ba_ext h0, rfl⟩⟩
    by_cases h1 : s.data.toList = [108, 115, 114]
    · exact .inl ⟨_, .inr (.inl ⟨ba_ext h1, rfl⟩)⟩
    by_cases h2 : s.data.toList = [97, 115, 114]
    · exact .inl ⟨_, .inr (.inr (.inl ⟨ba_ext h2, rfl⟩))⟩
    by_cases h3 : s.data.toList = [114, 111, 114]
    · exact .inl ⟨_, .inr (.inr (.inr ⟨ba_ext h3, rfl⟩))⟩
    exact .inr ⟨h0, h1, h2, h3⟩
  rcases hc with ⟨r, ⟨rfl, rfl⟩ | ⟨rfl, rfl⟩ | ⟨rfl, rfl⟩ | ⟨rfl, rfl⟩⟩ | ⟨h0, h1, h2, h3⟩
  rotate_left 4
  · have n0 := lst_ne h0
    have n1 := lst_ne h1
    have n2 := lst_ne h2
    have n3 := lst_ne h3
    have HE : Hid (shiftL s.data.toList = -1) := Lib.hid (by unfold shiftL; rw [if_neg h0, if_neg h1, if_neg h2, if_neg h3])
    clear h0 h1 h2 h3
    go_enter Tryd.func75, Tryd.ntmps75
    go_wp2
    refine wp_loop_rounds 5 ?_
    rw [rounds_succ]
    go_wp2
    all_goals (try (rw [rounds_succ]; go_wp2))
    all_goals (try (rw [rounds_succ]; go_wp2))
    all_goals (try (rw [rounds_succ]; go_wp2))
    all_goals (try (rw [rounds_succ]; go_wp2))
    all_goals (go_ret; exact ⟨by rw [HE.out]; rfl, rfl⟩)
  all_goals
    go_enter Tryd.func75, Tryd.ntmps75
    go_wp2
    refine wp_loop_rounds 5 ?_
    rw [rounds_succ]
    go_wp2
    all_goals (try (rw [rounds_succ]; go_wp2))
    all_goals (try (rw [rounds_succ]; go_wp2))
    all_goals (try (rw [rounds_succ]; go_wp2))
    all_goals (try (rw [rounds_succ]; go_wp2))
    all_goals (go_ret; exact ⟨rfl, rfl⟩)
def isNmL (s : List UInt8) : Bool := isWordL s && decide ((regL s).2.2 ≠ 0) && decide (shiftL s < 0)
set_option maxRecDepth 100000 in
set_option maxHeartbeats 2000000 in
theorem isName_any (s : ByteArray) (hs : s.size ≤ maxLen) (w : World) (hT : TabO w) : Calls Tryd.prog 95 #[.string s] w (RetB (.bool (isNmL s.data.toList)) w) := by
  have HR := Lib.hid (Reg_any s w hT.2.1)
  have HW := Lib.hid (fun u => IsWord_any s hs u)
  have HK : Hid (∀ u, TabO u → Calls Tryd.prog 75 #[.string s] u (Ret (.int .i64 (shiftL s.data.toList)) u)) := Lib.hid fun u hu => shiftKind_any s u hu.2.2
  have HT := Lib.hid hT
  obtain ⟨r, hr⟩ : ∃ r, r = regL s.data.toList := ⟨_, rfl⟩
  obtain ⟨b, hb⟩ : ∃ b, b = isWordL s.data.toList := ⟨_, rfl⟩
  obtain ⟨k, hk⟩ : ∃ k, k = shiftL s.data.toList := ⟨_, rfl⟩
  have HE : Hid (isNmL s.data.toList = (b && decide (r.2.2 ≠ 0) && decide (k < 0))) := Lib.hid (by unfold isNmL; rw [← hr, ← hb, ← hk])
  rw [← hr] at HR
  rw [← hb] at HW
  rw [← hk] at HK
  obtain ⟨n, st, e0⟩ := r
  clear hT hs hr hb hk
  cases b
  · go_enter Tryd.func95, Tryd.ntmps95
    go_wp2_with fail
    refine HR.out.mono ?_
    rintro e w1 ⟨rfl, hb⟩
    have HB1 := Lib.hid hb
    clear hb
    go_wp2_with fail
    refine (HW.out _).mono ?_
    rintro e w2 ⟨rfl, hb⟩
    have HB2 := Lib.hid (after HB1.out hb)
    clear hb
    go_wp2
    go_ret
    exact ⟨by rw [HE.out]; rfl, HB2.out⟩
  · by_cases he : e0 = 0
    · subst he
      go_enter Tryd.func95, Tryd.ntmps95
      go_wp2_with fail
      refine HR.out.mono ?_
      rintro e w1 ⟨rfl, hb⟩
      have HB1 := Lib.hid hb
      clear hb
      go_wp2_with fail
      refine (HW.out _).mono ?_
      rintro e w2 ⟨rfl, hb⟩
      have HB2 := Lib.hid (after HB1.out hb)
      clear hb
      go_wp2
      go_ret
      exact ⟨by rw [HE.out]; rfl, HB2.out⟩
    · have hne : (e0 != 0) = true := by rw [bne_iff_ne]; exact he
      replace HE : Hid (isNmL s.data.toList = decide (k < 0)) := Lib.hid (by rw [HE.out, decide_eq_true he]; simp)
      clear he
      go_enter Tryd.func95, Tryd.ntmps95
      go_wp2_with fail
      refine HR.out.mono ?_
      rintro e w1 ⟨rfl, hb⟩
      have HB1 := Lib.hid hb
      clear hb
      go_wp2_with fail
      refine (HW.out _).mono ?_
      rintro e w2 ⟨rfl, hb⟩
      have HB2 := Lib.hid (after HB1.out hb)
      clear hb
      go_wp2_with fail
      refine (HK.out _ (HT.out.next HB2.out)).mono ?_
      rintro e w3 ⟨rfl, rfl⟩
      go_wp2
      go_ret
      exact ⟨by rw [HE.out]; rfl, HB2.out⟩
end Go.Proofs.YtngoipcjipbelaaDoor
