/- operand's reference: Reg. -/
import Derived.Test.YtmlofdolenmkoaaGreatDoorkRA
namespace Go.Proofs.YtmlofdolenmkoaaGreatDoor
set_option linter.unusedVariables false
set_option linter.unusedSimpArgs false
open Go.ChangeShapes Go.WideShapes Go.Deep Go.RowKit

theorem regText_back {s : List UInt8} (h : (regL s).2.2 = 0) : regTextL (regL s).1 (regL s).2.1 = (s, 0) := by
  rcases regL_cases s with ⟨h1, h2⟩ | ⟨h1, h2⟩ | ⟨n, hn, h1, h2⟩ | ⟨-, -, -, h2⟩
  · rw [h2, h1]; rfl
  · rw [h2, h1]; rfl
  · rw [h2]
    show regTextL (n : Int) false = (s, 0)
    unfold regTextL
    rw [if_neg (by rintro (h | h | ⟨h, -⟩) <;> first | omega | cases h), if_neg (by decide), if_neg (by omega), h1, Int.toNat_natCast]
  · rw [h2] at h; cases h
theorem reg_back {n : Int} {st : Bool} (h : (regTextL n st).2 = 0) : regL (regTextL n st).1 = (n, st, 0) := by
  unfold regTextL at *
  split at h
  · cases h
  · rename_i c
    rw [if_neg c]
    have c0 : ¬ n < 0 := fun h => c (.inl h)
    have c1 : ¬ n > 31 := fun h => c (.inr (.inl h))
    split
    · rename_i c2
      have c3 : n = 31 := Classical.byContradiction fun h => c (.inr (.inr ⟨c2, h⟩))
      rw [c2, c3]; rfl
    · rename_i c2
      replace c2 : st = false := by simpa using c2
      split
      · rename_i c3; rw [c2, c3]; rfl
      · rename_i c3
        obtain ⟨k, rfl⟩ : ∃ k : Nat, n = k := ⟨n.toNat, by omega⟩
        rw [c2]
        exact regL_at (by omega) (by rw [Int.toNat_natCast])
theorem regText_err {n : Int} {st : Bool} : (regTextL n st = ([], 1) ∧ (n < 0 ∨ n > 31 ∨ (st = true ∧ n ≠ 31))) ∨ (regTextL n st).2 = 0 := by
  by_cases c : n < 0 ∨ n > 31 ∨ (st = true ∧ n ≠ 31)
  · exact .inl ⟨by unfold regTextL; rw [if_pos c], c⟩
  · refine .inr ?_
    unfold regTextL
    rw [if_neg c]
    split
    · rfl
    · split <;> rfl
theorem txt_ok {k : Nat} (h : k ≤ 31) : (regTextL (k : Int) false).2 = 0 := by
  rcases regText_err (n := (k : Int)) (st := false) with ⟨-, h' | h' | ⟨h', -⟩⟩ | h'
  · omega
  · omega
  · cases h'
  · exact h'
theorem reg_found {s : List UInt8} {k : Nat} (h : k ≤ 31) (e : s = (regTextL (k : Int) false).1) : regL s = ((k : Int), false, 0) := by
  rw [e]; exact reg_back (txt_ok h)
theorem reg_none {s : List UInt8} (h0 : s ≠ spB) (h : ∀ j : Nat, j < 32 → s ≠ (regTextL (j : Int) false).1) : regL s = (0, false, 3) := by
  rcases regL_cases s with ⟨h1, -⟩ | ⟨h1, -⟩ | ⟨n, hn, h1, h2⟩ | ⟨-, -, -, h2⟩
  · exact absurd h1 h0
  · exact absurd h1 (h 31 (by omega))
  · exfalso
    apply h n (by omega)
    have := regText_back (s := s) (by rw [h2])
    rw [h2] at this
    rw [this]
  · exact h2
set_option maxRecDepth 100000 in
set_option maxHeartbeats 4000000 in
theorem rReg_any (s : ByteArray) (w : World) : Calls Tryz.prog 142 #[.string s] w (Ret (regV (regL s.data.toList)) w) := by
  by_cases h1 : s.data.toList = spB
  · have hs : s = ⟨#[115, 112]⟩ := ba_ext h1
    subst hs
    have HE : Hid (regL (ByteArray.mk #[115, 112]).data.toList = (31, true, 0)) := Lib.hid (by kernel_rfl)
    rw [HE.out]
    clear h1
    go_enter Tryz.func142, Tryz.ntmps142
    go_wp2
    go_ret3
    exact ⟨rfl, rfl⟩
  · have hne := lst_ne h1
    have HS := Lib.hid h1
    have HRT := Lib.hid (fun (k : Nat) (w : World) => rRegText_any (k : Int))
    clear h1
    go_enter Tryz.func142, Tryz.ntmps142
    go_wp2_with fail
    go_loopw [5] (fun i wr => wr = w ∧ ∃ k : Nat, k ≤ 32 ∧ i = .int .i64 k ∧ Hid (∀ j : Nat, j < k → s.data.toList ≠ (regTextL (j : Int) false).1)) (fun i _ => 32 - (intOf i).toNat)
    case atStart => exact ⟨rfl, 0, by omega, rfl, Lib.hid (fun j hj => by omega)⟩
    case round =>
      obtain ⟨rfl, k, hk, rfl, HK⟩ := hrel
      by_cases hlt : k ≤ 31
      · have HT : Hid (∀ w, Calls Tryz.prog 163 #[.int .i64 (k : Int), .bool false] w (Ret (.tuple #[.string ⟨(regTextL (k : Int) false).1.toArray⟩, .int .i64 0]) w)) := Lib.hid fun w => by
          have := rRegText_any (k : Int) (by unfold i64ok; omega) false w
          rwa [txt_ok hlt] at this
        by_cases he : s.data.toList = (regTextL (k : Int) false).1
        · have HE : Hid (regL s.data.toList = ((k : Int), false, 0)) := Lib.hid (reg_found hlt he)
          have heq : (⟨(regTextL (k : Int) false).1.toArray⟩ : ByteArray) = s := by rw [← he]
          rw [heq] at HT
          clear he heq
          go_wp2_with fail
          refine (HT.out _).mono ?_
          rintro e w' ⟨rfl, rfl⟩
          go_wp2
          go_ret3
          exact ⟨by rw [HE.out]; rfl, rfl⟩
        · have HN : Hid (∀ j : Nat, j < k + 1 → s.data.toList ≠ (regTextL (j : Int) false).1) := Lib.hid (fun j hj => by
            by_cases e : j = k
            · subst e; exact he
            · exact HK.out j (by omega))
          have hnk := lst_ne he
          generalize (regTextL (k : Int) false).1 = K at HT hnk
          clear he
          go_wp2_with fail
          refine (HT.out _).mono ?_
          rintro e w' ⟨rfl, rfl⟩
          go_wp2
          go_roundw
          case rel => exact ⟨trivial, k + 1, by omega, by go_num, HN⟩
          case measure => simp [intOf]; omega
      · have HE : Hid (regL s.data.toList = (0, false, 3)) := Lib.hid (reg_none HS.out (fun j hj => HK.out j (by omega)))
        go_wp2
        go_ret3
        exact ⟨by rw [HE.out]; rfl, rfl⟩
end Go.Proofs.YtmlofdolenmkoaaGreatDoor
