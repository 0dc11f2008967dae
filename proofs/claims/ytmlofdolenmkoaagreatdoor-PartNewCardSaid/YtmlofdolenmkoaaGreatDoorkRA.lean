/- operand's references: Text of a number below 31; RegText. -/
import Derived.Test.YtmlofdolenmkoaaGreatDoorkYA
namespace Go.Proofs.YtmlofdolenmkoaaGreatDoor
set_option linter.unusedVariables false
set_option linter.unusedSimpArgs false
open Go.ChangeShapes Go.WideShapes Go.Deep Go.RowKit

theorem dig_slice : ∀ d : Fin 10, (ByteArray.mk #[48, 49, 50, 51, 52, 53, 54, 55, 56, 57, 97, 98, 99, 100, 101, 102]).extract d.val (d.val + 1) = ⟨#[UInt8.ofNat (48 + d.val)]⟩ := by decide +kernel
abbrev dgA (u : Nat) : List UInt8 := [UInt8.ofNat (48 + u)]
def tlen (t : Value) : Nat := match t with | .string s => if s.size = 0 then 1 else 0 | _ => 0
theorem app_ba (a b : List UInt8) : (⟨a.toArray⟩ : ByteArray) ++ ⟨b.toArray⟩ = ⟨(a ++ b).toArray⟩ := by
  apply ByteArray.ext; simp
theorem decL_one {u : Nat} (h : u < 10) : decL u = dgA u := by unfold decL; rw [if_pos h]
theorem decL_two {u : Nat} (h : ¬ u < 10) : decL u = dgA (u / 10) ++ dgA (u % 10) := by unfold decL; rw [if_neg h]; rfl
theorem decL_ne (u : Nat) : ((⟨(decL u).toArray⟩ : ByteArray) == ⟨#[]⟩) = false := by
  by_cases h : u < 10
  · rw [decL_one h]; rfl
  · rw [decL_two h]; rfl
set_option maxRecDepth 100000 in
set_option maxHeartbeats 4000000 in
theorem rwrite_any (u : Nat) (hu : u < 31) (w : World) : Calls Tryz.prog 200 #[.int .u64 u, .int .u64 10] w (Ret (.string ⟨(decL u).toArray⟩) w) := by
  have HU := Lib.hid hu
  go_enter Tryz.func200, Tryz.ntmps200
  go_wp2_with fail
  go_loopw [0, 6] (fun v t wr => wr = w ∧ ((v = .int .u64 u ∧ t = .string ⟨#[]⟩) ∨ (10 ≤ u ∧ v = .int .u64 ((u / 10 : Nat) : Int) ∧ t = .string ⟨(dgA (u % 10)).toArray⟩) ∨ (v = .int .u64 0 ∧ t = .string ⟨(decL u).toArray⟩)))
    (fun v t _ => (intOf v).toNat + tlen t)
  case atStart => exact ⟨rfl, .inl ⟨rfl, rfl⟩⟩
  case round =>
    obtain ⟨rfl, hr⟩ := hrel
    rcases hr with ⟨rfl, rfl⟩ | ⟨h10, rfl, rfl⟩ | ⟨rfl, rfl⟩
    · by_cases h0 : u = 0
      · subst h0
        have HD : Hid ((ByteArray.mk #[48, 49, 50, 51, 52, 53, 54, 55, 56, 57, 97, 98, 99, 100, 101, 102]).extract 0 1 ++ ⟨#[]⟩ = ⟨(decL 0).toArray⟩) := Lib.hid (by kernel_rfl)
        go_wp2
        all_goals refine ⟨⟨trivial, .inr (.inr ⟨rfl, by rw [HD.out]⟩)⟩, ?_⟩
        all_goals (rw [HD.out]; decide)
      by_cases h : u < 10
      · obtain ⟨x, hx⟩ : ∃ x, x = UInt8.ofNat (48 + u) := ⟨_, rfl⟩
        have hs := dig_slice ⟨u, h⟩
        simp only [] at hs
        rw [← hx] at hs
        have HD : Hid ((⟨#[x]⟩ : ByteArray) ++ ⟨#[]⟩ = ⟨(decL u).toArray⟩) := Lib.hid (by rw [decL_one h, hx]; rfl)
        have HTl : Hid (tlen (.string ⟨(decL u).toArray⟩) = 0) := Lib.hid (by rw [decL_one h]; rfl)
        have h10 : (u : Int).tmod 10 = (u : Int) := Int.tmod_eq_of_lt (by omega) (by omega)
        have h11 : (u : Int).tdiv 10 = 0 := Int.tdiv_eq_zero_of_lt (by omega) (by omega)
        have h12 : IntKind.u64.wrap ((u : Int) + 1) = ((u + 1 : Nat) : Int) := by rw [IntKind.wrap_u64]; omega
        clear hx
        go_wp2
        all_goals refine ⟨⟨trivial, .inr (.inr ⟨rfl, by rw [HD.out]⟩)⟩, ?_⟩
        all_goals (rw [HD.out, HTl.out]; show 0 + 0 < _ + 1; omega)
      · have h9 : u % 10 < 10 := by omega
        have hd0 : ¬ u / 10 = 0 := by omega
        obtain ⟨d, hd⟩ : ∃ d, d = u % 10 := ⟨_, rfl⟩
        obtain ⟨q, hq⟩ : ∃ q, q = u / 10 := ⟨_, rfl⟩
        obtain ⟨x, hx⟩ : ∃ x, x = UInt8.ofNat (48 + d) := ⟨_, rfl⟩
        rw [← hd] at h9
        rw [← hq] at hd0
        have hs := dig_slice ⟨d, h9⟩
        simp only [] at hs
        rw [← hx] at hs
        have HD : Hid ((⟨#[x]⟩ : ByteArray) ++ ⟨#[]⟩ = ⟨(dgA (u % 10)).toArray⟩) := Lib.hid (by rw [← hd, hx]; rfl)
        have h10 : (u : Int).tmod 10 = (d : Int) := by rw [Int.tmod_eq_emod_of_nonneg (by omega)]; omega
        have h11 : (u : Int).tdiv 10 = (q : Int) := by rw [Int.tdiv_eq_ediv_of_nonneg (by omega)]; omega
        have h12 : IntKind.u64.wrap ((d : Int) + 1) = ((d + 1 : Nat) : Int) := by rw [IntKind.wrap_u64]; omega
        have HQ := Lib.hid hq
        have HLT : Hid (q + 1 ≤ u) := Lib.hid (by omega)
        have H10 : Hid (10 ≤ u) := Lib.hid (by omega)
        have hwq : IntKind.u64.wrap (q : Int) = (q : Int) := by rw [IntKind.wrap_u64]; omega
        clear hx hd hq h
        go_wp2
        all_goals refine ⟨⟨trivial, .inr (.inl ⟨H10.out, by rw [HQ.out], by rw [HD.out]⟩)⟩, ?_⟩
        all_goals (rw [HD.out]; show q + 0 < u + 1; have := HLT.out; omega)
    · obtain ⟨q, hq⟩ : ∃ q, q = u / 10 := ⟨_, rfl⟩
      rw [← hq]
      have h9 : q < 10 := by omega
      have hd0 : ¬ q = 0 := by omega
      obtain ⟨x, hx⟩ : ∃ x, x = UInt8.ofNat (48 + q) := ⟨_, rfl⟩
      have hs := dig_slice ⟨q, h9⟩
      simp only [] at hs
      rw [← hx] at hs
      have HD : Hid ((⟨#[x]⟩ : ByteArray) ++ ⟨(dgA (u % 10)).toArray⟩ = ⟨(decL u).toArray⟩) := Lib.hid (by rw [decL_two (by omega), ← hq, ← app_ba, hx])
      have HTl : Hid (tlen (.string ⟨(decL u).toArray⟩) = 0) := Lib.hid (by rw [decL_two (by omega)]; rfl)
      have e10 : (q : Int).tmod 10 = (q : Int) := Int.tmod_eq_of_lt (by omega) (by omega)
      have e11 : (q : Int).tdiv 10 = 0 := Int.tdiv_eq_zero_of_lt (by omega) (by omega)
      have e12 : IntKind.u64.wrap ((q : Int) + 1) = ((q + 1 : Nat) : Int) := by rw [IntKind.wrap_u64]; omega
      have HTn : Hid (¬ (⟨(dgA (u % 10)).toArray⟩ : ByteArray).toList = []) := Lib.hid (by rw [ByteArray.toList_eq]; simp)
      have hTs : (⟨(dgA (u % 10)).toArray⟩ : ByteArray).size = 1 := rfl
      clear hx hq
      generalize (⟨(dgA (u % 10)).toArray⟩ : ByteArray) = T at HD HTn hTs ⊢
      have hTn : T.toList.isEmpty = false := by have := HTn.out; cases h : T.toList with | nil => exact absurd h this | cons a b => rfl
      have hq0 : (0 : Int) < (q : Int) := by omega
      go_wp2
      all_goals refine ⟨⟨trivial, .inr (.inr ⟨rfl, by rw [HD.out]⟩)⟩, ?_⟩
      all_goals (rw [HD.out, HTl.out]; show 0 + 0 < q + _; omega)
    · have HNe := decL_ne u
      generalize hTT : (⟨(decL u).toArray⟩ : ByteArray) = T at HNe ⊢
      have HTT := Lib.hid hTT
      clear hTT
      have hne : ¬ T.toList = [] := by
        intro h
        have : T = ⟨#[]⟩ := by rw [ByteArray.toList_eq] at h; cases T; simp_all
        rw [this] at HNe; exact absurd HNe (by decide)
      have hie : T.toList.isEmpty = false := by cases h : T.toList with | nil => exact absurd h hne | cons a b => rfl
      clear hne HNe
      go_wp2
      go_ret
      exact ⟨by rw [HTT.out]; rfl, rfl⟩
theorem rText_any (u : Nat) (hu : u < 31) (w : World) : Calls Tryz.prog 181 #[.int .u64 u] w (Ret (.string ⟨(decL u).toArray⟩) w) := by
  have HW := Lib.hid (rwrite_any u hu w)
  clear hu
  go_enter Tryz.func181, Tryz.ntmps181
  go_wp2_with fail
  refine HW.out.mono ?_
  rintro e w' ⟨rfl, rfl⟩
  go_wp2
  go_ret
  exact ⟨rfl, rfl⟩
set_option maxRecDepth 100000 in
set_option maxHeartbeats 4000000 in
theorem rRegText_any (n : Int) (hn : i64ok n) (st : Bool) (w : World) : Calls Tryz.prog 163 #[.int .i64 n, .bool st] w (Ret (.tuple #[.string ⟨(regTextL n st).1.toArray⟩, .int .i64 (regTextL n st).2]) w) := by
  by_cases c0 : n < 0
  · have HE : Hid (regTextL n st = ([], 1)) := Lib.hid (by unfold regTextL; rw [if_pos (.inl c0)])
    go_enter Tryz.func163, Tryz.ntmps163
    go_wp2
    go_ret2
    exact ⟨by rw [HE.out]; rfl, rfl⟩
  by_cases c1 : n > 31
  · have HE : Hid (regTextL n st = ([], 1)) := Lib.hid (by unfold regTextL; rw [if_pos (.inr (.inl c1))])
    go_enter Tryz.func163, Tryz.ntmps163
    go_wp2
    go_ret2
    exact ⟨by rw [HE.out]; rfl, rfl⟩
  have c3 : ¬ (31 < n) := c1
  cases st
  · by_cases c2 : n = 31
    · subst c2
      have HE : Hid (regTextL 31 false = (xzB, 0)) := Lib.hid rfl
      go_enter Tryz.func163, Tryz.ntmps163
      go_wp2
      go_ret2
      exact ⟨by rw [HE.out]; rfl, rfl⟩
    · obtain ⟨u, rfl⟩ : ∃ u : Nat, n = u := ⟨n.toNat, by omega⟩
      have hu : u < 31 := by omega
      have HE : Hid (regTextL (u : Int) false = (120 :: decL u, 0)) := Lib.hid (by
        unfold regTextL
        rw [if_neg (by rintro (h | h | ⟨h, -⟩) <;> first | omega | cases h), if_neg (by decide), if_neg c2, Int.toNat_natCast]; rfl)
      have HTx := Lib.hid (fun w => rText_any u hu w)
      have hb : ((u : Int) == 31) = false := by rw [beq_eq_false_iff_ne]; exact c2
      have hw : IntKind.u64.wrap (u : Int) = (u : Int) := by rw [IntKind.wrap_u64]; omega
      have hl : (⟨(decL u).toArray⟩ : ByteArray).size ≤ 2 := by
        show (decL u).toArray.size ≤ 2
        unfold decL; split <;> simp
      have HCat : Hid ((⟨#[120]⟩ : ByteArray) ++ ⟨(decL u).toArray⟩ = ⟨(120 :: decL u).toArray⟩) := Lib.hid (app_ba [120] (decL u))
      clear c2 hn
      generalize (⟨(decL u).toArray⟩ : ByteArray) = T at HTx hl HCat
      go_enter Tryz.func163, Tryz.ntmps163
      go_wp2_with fail
      refine (HTx.out _).mono ?_
      rintro e w' ⟨rfl, rfl⟩
      go_wp2
      go_ret2
      exact ⟨by rw [HE.out, ← HCat.out]; rfl, rfl⟩
  · by_cases c2 : n = 31
    · subst c2
      have HE : Hid (regTextL 31 true = (spB, 0)) := Lib.hid rfl
      go_enter Tryz.func163, Tryz.ntmps163
      go_wp2
      go_ret2
      exact ⟨by rw [HE.out]; rfl, rfl⟩
    · have HE : Hid (regTextL n true = ([], 1)) := Lib.hid (by unfold regTextL; rw [if_pos (.inr (.inr ⟨rfl, c2⟩))])
      have hb : (n != 31) = true := by rw [bne_iff_ne]; exact c2
      clear c2
      go_enter Tryz.func163, Tryz.ntmps163
      go_wp2
      go_ret2
      exact ⟨by rw [HE.out]; rfl, rfl⟩
end Go.Proofs.YtmlofdolenmkoaaGreatDoor
