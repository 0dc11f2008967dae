/- fold's law: FoldSaved. -/
import Derived.Test.YtfnakgipamjdnaaGreatDoorqP

namespace Go.Proofs.YtfnakgipamjdnaaGreatDoor
set_option linter.unusedVariables false
set_option linter.unusedSimpArgs false
open Go.ChangeShapes Go.WideShapes Go.Deep Go.RowKit

theorem allS_in {S : List Sc} {ins : List Bool} {k : Nat} (h : ins[k]? = some true) : allS S ins (k + 1) = allS S ins k + dataN S k := by
  show allS S ins k + _ = _
  rw [if_pos h]
theorem allS_out {S : List Sc} {ins : List Bool} {k : Nat} (h : ins[k]? = some false) : allS S ins (k + 1) = allS S ins k := by
  show allS S ins k + _ = _
  rw [if_neg (by rw [h]; simp)]; rfl
theorem leftS_in {S : List Sc} {l : List Int} {k : Nat} (h : l[k]? = some (k : Int)) : leftS S l (k + 1) = leftS S l k + dataN S k := by
  show leftS S l k + _ = _
  rw [if_pos h]
theorem leftS_out {S : List Sc} {l : List Int} {k : Nat} (h : l[k]? ≠ some (k : Int)) : leftS S l (k + 1) = leftS S l k := by
  show leftS S l k + _ = _
  rw [if_neg h]; rfl
set_option maxRecDepth 100000 in
set_option maxHeartbeats 4000000 in
theorem FoldSaved_walk (w : World) (ua : Option Addr) (un uc : Nat) (L : List Ms) (hun : un ≤ maxLen) (hs : SL msC 6 w w.heap.size ua un L) (hno : Notes w w.heap.size L) (hg : ∀ m ∈ L, GoodSc m.sc) (hb : ∀ m ∈ L, m.sc.rels.length * 32 ≤ reachBytes)
    (ia : Option Addr) (m ic : Nat) (ins : List Bool) (hm : m ≤ maxLen) (hi : SL enB 1 w w.heap.size ia m ins) (hiz : ia = none → m = 0 ∧ ic = 0) (hT : TabP w) :
    Calls Tryz.prog 10 #[.slice ua un uc, .slice ia m ic] w (RetB (.bool true) w) := by
  have hlen : (L.map (·.sc)).length = un := by rw [List.length_map]; exact hs.len.symm
  have hni : (un : Int) ≤ 9223372036854775807 := by unfold maxLen at hun; omega
  have hmi : (m : Int) ≤ 9223372036854775807 := by unfold maxLen at hm; omega
  have HBg : Hid (∀ u, Below w.heap.size w u → Calls Tryz.prog 36 #[.slice ua un uc] u (BoolP u)) := Lib.hid fun u hu => rBigU_any ua un uc L u hun (hs.next hu) (hno.next hu) hb
  have HFd : Hid (∀ u, Below w.heap.size w u → Calls Tryz.prog 55 #[] u (RetB (.bool true) u)) := Lib.hid fun u hu => folded_is u (hT.next hu)
  have HB : Hid (Below w.heap.size w w) := Lib.hid (Below.refl _ w)
  by_cases hmu : m = un
  rotate_left
  · have t1 : ((m : Int) != (un : Int)) = true := by rw [bne_iff_ne]; omega
    have t2 : ((m : Int) == (un : Int)) = false := by simp; omega
    clear hs hno hg hb hT hlen hun hi hiz hm hmu
    go_enter Tryz.func10, Tryz.ntmps10
    go_wp2_with fail
    refine (HBg.out _ HB.out).mono ?_
    rintro e u ⟨r, rfl, hb⟩
    replace HB := Lib.hid (after HB.out hb)
    clear hb
    cases r
    all_goals
      go_wp2_with fail
      refine (HFd.out _ HB.out).mono ?_
      rintro e u3 ⟨rfl, hb⟩
      replace HB := Lib.hid (after HB.out hb)
      clear hb
      go_wp2
      go_ret
      exact ⟨rfl, HB.out⟩
  subst hmu
  have t0 : ((m : Int) != (m : Int)) = false := by simp
  have t00 : ((m : Int) == (m : Int)) = true := by simp
  cases hu : unitsR (L.map (·.sc))
  · have HSn : Hid (∀ u, Below w.heap.size w u → Calls Tryz.prog 53 #[.slice ua m uc, .slice ia m ic] u (RetB (.tuple #[.int .i64 0, .int .i64 1]) u)) := Lib.hid fun u hk => saved_no u ua m uc L ia m ic hun hm (hs.next hk) (hno.next hk) hg hb (hT.next hk) (.inr hu)
    have HFn : Hid (∀ u, Below w.heap.size w u → Calls Tryz.prog 51 #[.slice ua m uc, .slice ia m ic] u (RetB (.tuple #[.slice none 0 0, .int .i64 1]) u)) := Lib.hid fun u hk => fold_no u ua m uc L ia m ic hun hm (hs.next hk) (hno.next hk) hg hb (hT.next hk) (.inr hu)
    clear hs hno hg hb hT hlen hun hi hiz hm hu
    go_enter Tryz.func10, Tryz.ntmps10
    go_wp2_with fail
    refine (HBg.out _ HB.out).mono ?_
    rintro e u ⟨r, rfl, hb⟩
    replace HB := Lib.hid (after HB.out hb)
    clear hb
    cases r
    rotate_left
    · go_wp2_with fail
      refine (HFd.out _ HB.out).mono ?_
      rintro e u3 ⟨rfl, hb⟩
      replace HB := Lib.hid (after HB.out hb)
      clear hb
      go_wp2
      go_ret
      exact ⟨rfl, HB.out⟩
    go_wp2_with fail
    refine (HSn.out _ HB.out).mono ?_
    rintro e u2 ⟨rfl, hb⟩
    replace HB := Lib.hid (after HB.out hb)
    clear hb
    go_wp2_with fail
    refine (HFn.out _ HB.out).mono ?_
    rintro e u3 ⟨rfl, hb⟩
    replace HB := Lib.hid (after HB.out hb)
    clear hb
    go_wp2_with fail
    refine (HFd.out _ HB.out).mono ?_
    rintro e u4 ⟨rfl, hb⟩
    replace HB := Lib.hid (after HB.out hb)
    clear hb
    go_wp2
    go_ret
    exact ⟨rfl, HB.out⟩
  have HSy : Hid (∀ u, Below w.heap.size w u → Calls Tryz.prog 53 #[.slice ua m uc, .slice ia m ic] u (SavP (L.map (·.sc)) ins m u)) := Lib.hid fun u hk => saved_yes u ua m uc L ia ic ins hm (hs.next hk) (hno.next hk) hg hb (hi.next hk) (hT.next hk) hu
  have HFy : Hid (∀ u, Below w.heap.size w u → Calls Tryz.prog 51 #[.slice ua m uc, .slice ia m ic] u (FoldP (L.map (·.sc)) ins m u)) := Lib.hid fun u hk => fold_yes u ua m uc L ia ic ins hm (hs.next hk) (hno.next hk) hg hb (hi.next hk) (hT.next hk) hu
  obtain ⟨S, hS⟩ : ∃ S, S = L.map (·.sc) := ⟨_, rfl⟩
  have hn2 : m ≤ 256 := by have := units_len hu; rw [hlen] at this; exact this
  have HD : Hid (∀ s ∈ S, s.data.length ≤ 4096) := Lib.hid (by
    intro s hs1
    obtain ⟨i, hi1⟩ := List.getElem?_of_mem hs1
    exact (units_sec hu (by rw [← hS]; exact hi1)).1.data)
  have HN := Lib.hid hn2
  have HLn := Lib.hid hlen
  have HIl : Hid (ins.length = m) := Lib.hid hi.len.symm
  have HIn := Lib.hid (fun u (hu : Below w.heap.size w u) => hi.next hu)
  have HUn := Lib.hid (fun u (hu : Below w.heap.size w u) => hs.next hu)
  have HSe := Lib.hid hS
  rw [← hS] at HSy HFy HLn
  clear hs hno hg hb hT hlen hun hi hiz hm hu hn2 hS
  go_enter Tryz.func10, Tryz.ntmps10
  go_wp2_with fail
  refine (HBg.out _ HB.out).mono ?_
  rintro e u ⟨r, rfl, hb⟩
  replace HB := Lib.hid (after HB.out hb)
  clear hb
  cases r
  rotate_left
  · go_wp2_with fail
    refine (HFd.out _ HB.out).mono ?_
    rintro e u3 ⟨rfl, hb⟩
    replace HB := Lib.hid (after HB.out hb)
    clear hb
    go_wp2
    go_ret
    exact ⟨rfl, HB.out⟩
  go_wp2_with fail
  refine (HSy.out _ HB.out).mono ?_
  rintro e u1 ⟨j1, hf1, rfl, hb⟩
  replace HB := Lib.hid (after HB.out hb)
  clear hb
  obtain ⟨sv, hsv⟩ : ∃ x, x = savS S ins (endL ins (foldN S ins j1)) m := ⟨_, rfl⟩
  rw [← hsv]
  have HSv0 := Lib.hid (And.intro hf1 hsv)
  clear hsv hf1
  go_wp2_with fail
  refine (HFy.out _ HB.out).mono ?_
  rintro e u2 ⟨j, Z, hfx, rfl, hr, hb⟩
  replace HB := Lib.hid (after HB.out hb)
  obtain ⟨hf1, hsv⟩ := HSv0.out
  rw [foldN_one hf1 hfx] at hsv
  obtain ⟨l, hl⟩ : ∃ l, l = endL ins (foldN S ins j) := ⟨_, rfl⟩
  have HAL : Hid (∀ k, k ≤ m → allS S ins k = leftS S l k + savS S ins l k) := Lib.hid (fun k hk => by rw [hl]; exact all_left k (by rw [HLn.out]; exact hk) (by rw [HIl.out, HLn.out]))
  rw [← hl] at hr hsv
  have hll : l.length = m := by rw [hl, endL_len, foldN_len]; exact HLn.out
  have HLl := Lib.hid hll
  have HR := Lib.hid hr
  have HSv := Lib.hid hsv
  have hsv2 : sv ≤ 4096 * 256 := by
    have h1 := savS_le (ins := ins) (l := l) HD.out m
    have h2 := HN.out
    rw [hsv]; omega
  have hsvi : (sv : Int) ≤ 1048576 := by omega
  clear hr hb hl hll hfx hf1 hsv hsv2 HSy HFy HBg
  go_wp2_with fail
  go_loopw [9, 10, 11] (fun av lv i wr => ∃ (k : Nat) (wx : World), wx = wr ∧ k ≤ m ∧ av = .int .i64 (allS S ins k : Nat) ∧ lv = .int .i64 (leftS S l k : Nat) ∧ i = .int .i64 k ∧ Hid (Below u2.heap.size u2 wx)) (fun _ _ i _ => m - (intOf i).toNat)
  case atStart => exact ⟨0, _, rfl, by omega, rfl, rfl, rfl, Lib.hid (Below.refl _ _)⟩
  case round =>
    obtain ⟨k, wx, rfl, hk, rfl, rfl, rfl, HK⟩ := hrel
    by_cases hlt : k < m
    · have hlti : (k : Int) < (m : Int) := by omega
      have HLT := Lib.hid hlt
      have hkk := after HB.out HK.out
      have hsl := HIn.out wx hkk
      have hul := HUn.out wx hkk
      have hkL : k < L.length := by rw [← hul.len]; exact hlt
      obtain ⟨b, hbk⟩ : ∃ b, ins[k]? = some b := ⟨_, List.getElem?_eq_getElem (by rw [HIl.out]; exact hlt)⟩
      obtain ⟨v, hvk⟩ : ∃ v, l[k]? = some v := ⟨_, List.getElem?_eq_getElem (by rw [HLl.out]; exact hlt)⟩
      obtain ⟨mm, hmm⟩ : ∃ m, L[k]? = some m := ⟨_, List.getElem?_eq_getElem hkL⟩
      obtain ⟨ib, io, hia, -, -⟩ := hsl.cells (by intro e; rw [e] at hbk; cases hbk)
      obtain ⟨ub, uo, hua, -, -⟩ := hul.cells (by intro e; rw [e] at hmm; cases hmm)
      subst hia
      subst hua
      have i0 : wx.cell? ⟨ib, io + k, none⟩ = some (.bool b) := bools_cells hsl (Below.refl _ _) hbk
      have z0 : wx.cell? ⟨Z, k, none⟩ = some (.int .i64 v) := by rw [(HR.out.next HK.out).cell]; exact inA_get hvk
      obtain ⟨-, -, -, -, y4, -⟩ := unit_cells hul (Below.refl _ _) hmm
      have hdn : dataN S k = mm.sc.data.length := by unfold dataN; rw [HSe.out, List.getElem?_map, hmm]; rfl
      obtain ⟨D, hD⟩ : ∃ N : ByteArray, N = ⟨mm.sc.data.toArray⟩ := ⟨_, rfl⟩
      have HDs : Hid (D.size = dataN S k) := Lib.hid (by rw [hdn, hD]; show mm.sc.data.toArray.size = _; simp)
      rw [← hD] at y4
      have HBk := Lib.hid hbk
      have HVk := Lib.hid hvk
      have ha0 := allS_le (ins := ins) HD.out k
      have ha1 := allS_le (ins := ins) HD.out (k + 1)
      have hA0 := HAL.out k (by omega)
      have hA1 := HAL.out (k + 1) (by omega)
      have hN := HN.out
      have HBa : Hid (allS S ins k ≤ 1048576 ∧ leftS S l k ≤ 1048576 ∧ allS S ins (k + 1) ≤ 1048576 ∧ leftS S l (k + 1) ≤ 1048576) := Lib.hid (by omega)
      clear hkk hsl hul hkL hbk hvk hmm hdn hD ha0 ha1 hA0 hA1 hN hk hlt
      have hcs : (b = true ∨ b = false) ∧ (v = (k : Int) ∨ v ≠ (k : Int)) := by
        refine ⟨by cases b <;> simp, ?_⟩
        by_cases e : v = (k : Int)
        · exact .inl e
        · exact .inr e
      obtain ⟨hcb, hcv⟩ := hcs
      have HA : Hid (allS S ins (k + 1) = allS S ins k + (if b = true then D.size else 0)) := Lib.hid (by
        rcases hcb with rfl | rfl
        · rw [allS_in HBk.out, HDs.out]; simp
        · rw [allS_out HBk.out]; simp)
      have HL2 : Hid (leftS S l (k + 1) = leftS S l k + (if v = (k : Int) then D.size else 0)) := Lib.hid (by
        rcases hcv with h | h
        · rw [leftS_in (by rw [HVk.out, h]), HDs.out, if_pos h]
        · rw [leftS_out (by rw [HVk.out]; simpa using h), if_neg h]; rfl)
      have hw1 : b = true → IntKind.i64.wrap (((allS S ins k : Nat) : Int) + (D.size : Int)) = ((allS S ins k : Nat) : Int) + (D.size : Int) := fun e => by
        have h1 := HBa.out
        have h2 := HA.out
        rw [if_pos e] at h2
        rw [IntKind.wrap_i64]; omega
      have hw2 : v = (k : Int) → IntKind.i64.wrap (((leftS S l k : Nat) : Int) + (D.size : Int)) = ((leftS S l k : Nat) : Int) + (D.size : Int) := fun e => by
        have h1 := HBa.out
        have h2 := HL2.out
        rw [if_pos e] at h2
        rw [IntKind.wrap_i64]; omega
      obtain ⟨A0, hA0⟩ : ∃ x, x = allS S ins k := ⟨_, rfl⟩
      obtain ⟨L0, hL0⟩ : ∃ x, x = leftS S l k := ⟨_, rfl⟩
      rw [← hA0] at HA hw1 ⊢
      rw [← hL0] at HL2 hw2 ⊢
      clear hA0 hL0
      rcases hcb with rfl | rfl
      · replace hw1 := hw1 rfl
        rw [if_pos rfl] at HA
        rcases hcv with rfl | hne
        · have t1 : ((k : Int) == (k : Int)) = true := by simp
          replace hw2 := hw2 rfl
          rw [if_pos rfl] at HL2
          go_wp2
          go_roundw
          case rel => exact ⟨k + 1, _, rfl, by have := HLT.out; omega, by rw [HA.out]; go_num, by rw [HL2.out]; go_num, by go_num, HK⟩
          case measure => have := HLT.out; simp [intOf]; omega
        · have t1 : (v == (k : Int)) = false := by simp [hne]
          rw [if_neg hne] at HL2
          clear hw2 hne
          go_wp2
          go_roundw
          case rel => exact ⟨k + 1, _, rfl, by have := HLT.out; omega, by rw [HA.out]; go_num, by rw [HL2.out]; rfl, by go_num, HK⟩
          case measure => have := HLT.out; simp [intOf]; omega
      · rw [if_neg (by simp)] at HA
        clear hw1
        rcases hcv with rfl | hne
        · have t1 : ((k : Int) == (k : Int)) = true := by simp
          replace hw2 := hw2 rfl
          rw [if_pos rfl] at HL2
          go_wp2
          go_roundw
          case rel => exact ⟨k + 1, _, rfl, by have := HLT.out; omega, by rw [HA.out]; rfl, by rw [HL2.out]; go_num, by go_num, HK⟩
          case measure => have := HLT.out; simp [intOf]; omega
        · have t1 : (v == (k : Int)) = false := by simp [hne]
          rw [if_neg hne] at HL2
          clear hw2 hne
          go_wp2
          go_roundw
          case rel => exact ⟨k + 1, _, rfl, by have := HLT.out; omega, by rw [HA.out]; rfl, by rw [HL2.out]; rfl, by go_num, HK⟩
          case measure => have := HLT.out; simp [intOf]; omega
    · have hlti : ¬ (k : Int) < (m : Int) := by omega
      have hkm : k = m := by omega
      subst hkm
      have HB2 := Lib.hid (after HB.out HK.out)
      have hA := HAL.out k (by omega)
      have ha1 := allS_le (ins := ins) HD.out k
      have hN := HN.out
      rw [← HSv.out] at hA
      obtain ⟨A0, hA0⟩ : ∃ x, x = allS S ins k := ⟨_, rfl⟩
      obtain ⟨L0, hL0⟩ : ∃ x, x = leftS S l k := ⟨_, rfl⟩
      rw [← hA0] at hA ha1
      rw [← hL0] at hA
      rw [← hA0, ← hL0]
      have hw1 : IntKind.i64.wrap ((A0 : Int) - (L0 : Int)) = (sv : Int) := by rw [IntKind.wrap_i64]; omega
      have t1 : ((sv : Int) == (sv : Int)) = true := by simp
      have t2 : (0 : Int) ≤ (sv : Int) := by omega
      have t3 : ¬ (sv : Int) < 0 := by omega
      clear hA ha1 hN hA0 hL0 hk hlt HK
      go_wp2_with fail
      refine (HFd.out _ HB2.out).mono ?_
      rintro e u4 ⟨rfl, hb⟩
      replace HB2 := Lib.hid (after HB2.out hb)
      clear hb
      go_wp2
      go_ret
      exact ⟨rfl, HB2.out⟩
end Go.Proofs.YtfnakgipamjdnaaGreatDoor
