/- operand's reference: Label. -/
import Derived.Test.YtmlofdolenmkoaaGreatDoorkRB
namespace Go.Proofs.YtmlofdolenmkoaaGreatDoor
set_option linter.unusedVariables false
set_option linter.unusedSimpArgs false
open Go.ChangeShapes Go.WideShapes Go.Deep Go.RowKit

set_option maxRecDepth 100000 in
set_option maxHeartbeats 2000000 in
theorem rLabel_any (s : ByteArray) (hs : s.size ≤ maxLen) (w : World) : Calls Tryz.prog 141 #[.string s] w (Ret (labelV (labelL s.data.toList)) w) := by
  have hlen : s.data.toList.length = s.size := by simp
  have hs9 : (s.size : Int) ≤ 9223372036854775807 := by unfold maxLen at hs; omega
  by_cases h1 : s.size < 2
  · have h1z : (s.size : Int) < 2 := by omega
    have HE : Hid (labelL s.data.toList = none) := Lib.hid (labelL_len (.inl (by omega)))
    clear hs hlen h1
    go_enter Tryz.func141, Tryz.ntmps141
    go_wp2
    go_ret3
    exact ⟨by rw [HE.out]; rfl, rfl⟩
  by_cases h2 : 5 < s.size
  · have h1z : ¬ (s.size : Int) < 2 := by omega
    have h2z : (5 : Int) < (s.size : Int) := by omega
    have HE : Hid (labelL s.data.toList = none) := Lib.hid (labelL_len (.inr (by omega)))
    clear hs hlen h1 h2
    go_enter Tryz.func141, Tryz.ntmps141
    go_wp2
    go_ret3
    exact ⟨by rw [HE.out]; rfl, rfl⟩
  have h1z : ¬ (s.size : Int) < 2 := by omega
  have h2z : ¬ (5 : Int) < (s.size : Int) := by omega
  obtain ⟨m, hm⟩ : ∃ m, s.size = m + 1 := ⟨s.size - 1, by omega⟩
  have hmz : IntKind.i64.wrap ((s.size : Int) - 1) = (m : Int) := by rw [IntKind.wrap_i64]; omega
  have hm0 : (0 : Int) ≤ m := by omega
  have hmn : (m : Int) ≤ (s.size : Int) := by omega
  have hmn2 : (m : Int) < (s.size : Int) := by omega
  have HM := Lib.hid (And.intro hm hlen)
  have hne : ¬ s.toList = [] := fun h => by
    have := congrArg List.length h
    rw [ByteArray.toList_eq, hlen] at this
    simp only [List.length_nil] at this; omega
  obtain ⟨D, hD⟩ : ∃ D, s.extract 0 m = D := ⟨_, rfl⟩
  have hml : m < s.size := by omega
  obtain ⟨c, hc⟩ : ∃ c : UInt8, s[m]'hml = c := ⟨_, rfl⟩
  have hDl : D.data.toList = s.data.toList.take m := by
    rw [← hD, ByteArray.data_extract, Array.toList_extract]; simp [List.extract]
  have hDz : D.size = m := by
    have : D.data.toList.length = m := by rw [hDl, List.length_take]; omega
    rw [← this]; simp
  have hsplit : s.data.toList = D.data.toList ++ [c] := by
    rw [hDl, ← hc]
    have := List.take_append_drop m s.data.toList
    rw [get_drop (by omega), List.drop_eq_nil_of_le (by omega)] at this
    exact this.symm
  have hLE : labelL s.data.toList = if c = 102 ∨ c = 98 then (match labV D.data.toList 0 with | none => none | some n => some (n, c == 102)) else none := by
    unfold labelL
    rw [if_neg (by omega), hsplit, List.getLast?_append]
    simp
    rfl
  have HLE := Lib.hid hLE
  have HDZ := Lib.hid hDz
  have HDk : Hid (∀ (k : Nat) (h : k < m), D.data.toList.drop k = s[k]'(by omega) :: D.data.toList.drop (k + 1)) := Lib.hid (fun k h => by
    have hk : k < D.size := by omega
    rw [get_drop hk]
    congr 1
    have e : D.data.toList[k]? = s.data.toList[k]? := by rw [hDl, List.getElem?_take, if_pos h]
    rw [List.getElem?_eq_getElem (by simpa using hk), List.getElem?_eq_getElem (by rw [hlen]; omega)] at e
    exact Option.some.inj e)
  have hcm : s[m]'hml = c := hc
  have hm5 : (m : Int) ≤ 4 := by omega
  clear hs h1 h2 hDl hsplit hLE hD
  go_enter Tryz.func141, Tryz.ntmps141
  go_wp2
  go_loopw [5, 6] (fun nv iv wl => wl = w ∧ ∃ k n : Nat, nv = .int .i64 (n : Int) ∧ iv = .int .i64 (k : Int) ∧ k ≤ m ∧ n < 10 ^ k ∧ Hid (labV D.data.toList 0 = labV (D.data.toList.drop k) n)) (fun _ iv _ => m - (intOf iv).toNat)
  case atStart => exact ⟨rfl, 0, 0, rfl, rfl, by omega, by decide, Lib.hid (by rw [List.drop_zero])⟩
  case round =>
    obtain ⟨rfl, k, n, rfl, rfl, hk, hn, HA⟩ := hrel
    by_cases hlt : k < m
    · have hks : k < s.size := by omega
      obtain ⟨x, hx⟩ : ∃ x : UInt8, s[k]'hks = x := ⟨_, rfl⟩
      have hdr := HDk.out k hlt
      rw [hx] at hdr
      have hltz : (k : Int) < (m : Int) := by omega
      have HDR := Lib.hid hdr
      have hx256 : x.toNat < 256 := x.toNat_lt
      have hn4 : n < 10000 := by
        have : (10 : Nat) ^ k ≤ 10 ^ 4 := Nat.pow_le_pow_right (by decide) (by omega)
        omega
      have HN := Lib.hid hn
      clear hdr hn
      by_cases hd : 48 ≤ x.toNat ∧ x.toNat ≤ 57
      · obtain ⟨d, hdd⟩ : ∃ d, d = x.toNat - 48 := ⟨_, rfl⟩
        have HC : Hid (labV D.data.toList 0 = labV (D.data.toList.drop (k + 1)) (10 * n + d)) := Lib.hid (by
          rw [HA.out, HDR.out, labV, if_pos (by unfold isDg; simp [hd.1, hd.2]), hdd])
        have HN2 : Hid (10 * n + d < 10 ^ (k + 1)) := Lib.hid (by have := HN.out; rw [Nat.pow_succ]; omega)
        have l1 : ¬ ((x.toNat : Int) < 48) := by omega
        have l2 : ¬ ((57 : Int) < (x.toNat : Int)) := by omega
        have w1 : IntKind.i64.wrap (10 * (n : Int)) = 10 * (n : Int) := by rw [IntKind.wrap_i64]; omega
        have w2 : IntKind.u8.wrap ((x.toNat : Int) - 48) = (d : Int) := by rw [IntKind.wrap_u8]; omega
        have w3 : IntKind.i64.wrap (d : Int) = (d : Int) := by rw [IntKind.wrap_i64]; omega
        have w4 : IntKind.i64.wrap (10 * (n : Int) + (d : Int)) = ((10 * n + d : Nat) : Int) := by rw [IntKind.wrap_i64]; omega
        clear hd hdd hx256 hn4
        go_wp2
        go_roundw
        case rel => exact ⟨trivial, k + 1, 10 * n + d, by first | rfl | (congr 1; omega), by go_num, by omega, HN2.out, HC⟩
        case measure => simp [intOf]; omega
      · have HC : Hid (labelL s.data.toList = none) := Lib.hid (by
          have hv : labV D.data.toList 0 = none := by rw [HA.out, HDR.out, labV, if_neg (by unfold isDg; simp; omega)]
          rw [HLE.out, hv]
          split <;> rfl)
        by_cases l1 : (x.toNat : Int) < 48
        · clear hd hx256 hn4
          go_wp2
          go_ret3
          exact ⟨by rw [HC.out]; rfl, rfl⟩
        · have l2 : (57 : Int) < (x.toNat : Int) := by omega
          clear hd hx256 hn4
          go_wp2
          go_ret3
          exact ⟨by rw [HC.out]; rfl, rfl⟩
    · have hkm : k = m := by omega
      subst hkm
      have hltz : ¬ (k : Int) < (k : Int) := by omega
      have HC : Hid (labV D.data.toList 0 = some n) := Lib.hid (by
        rw [HA.out, List.drop_eq_nil_of_le (by
          have := HDZ.out
          have h2 : D.data.toList.length = D.size := by simp
          omega), labV])
      clear hn
      by_cases c1 : c = 102 ∨ c = 98
      · have HL2 : Hid (labelL s.data.toList = some (n, c == 102)) := Lib.hid (by rw [HLE.out, if_pos c1, HC.out])
        rcases c1 with rfl | rfl
        all_goals
          go_wp2
          go_ret3
          exact ⟨by rw [HL2.out]; rfl, rfl⟩
      · have HL2 : Hid (labelL s.data.toList = none) := Lib.hid (by rw [HLE.out, if_neg c1])
        have hc256 : c.toNat < 256 := c.toNat_lt
        have d1 : ((c.toNat : Int) != 102) = true := by
          rw [bne_iff_ne]; intro h
          exact c1 (.inl (UInt8.toNat_inj.1 (by show c.toNat = 102; omega)))
        have d2 : ((c.toNat : Int) != 98) = true := by
          rw [bne_iff_ne]; intro h
          exact c1 (.inr (UInt8.toNat_inj.1 (by show c.toNat = 98; omega)))
        clear c1 hc256
        go_wp2
        go_ret3
        exact ⟨by rw [HL2.out]; rfl, rfl⟩
end Go.Proofs.YtmlofdolenmkoaaGreatDoor
