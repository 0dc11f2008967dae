/- operand's law: OperandRegs. -/
import Derived.Test.YtngoipcjipbelaaDoorOY
namespace Go.Proofs.YtngoipcjipbelaaDoor
set_option linter.unusedVariables false
set_option linter.unusedSimpArgs false
open Go.ChangeShapes Go.WideShapes Go.Deep Go.RowKit

theorem regText_back {s : List UInt8} (h : (regL s).2.2 = 0) : regTextL (regL s).1 (regL s).2.1 = (s, 0) := by
  rcases regL_cases s with ⟨h1, h2⟩ | ⟨h1, h2⟩ | ⟨n, hn, h1, h2⟩ | ⟨-, -, -, h2⟩
  · rw [h2, h1]; rfl
  · rw [h2, h1]; rfl
  · rw [h2]
    show regTextL (n : Int) false = (s, 0)
    unfold regTextL
    rw [if_neg (by rintro (h | h | ⟨h, -⟩) <;> first | omega | cases h), if_neg (by decide), if_neg (by omega), h1, Int.toNat_natCast]
  · rw [h2] at h; cases h
theorem reg_back {n : Int} {st : Bool} (h : (regTextL n st).2 = 0) : regL (regTextL n st).1 = (n, st, 0) := by
  unfold regTextL at *
  split at h
  · cases h
  · rename_i c
    rw [if_neg c]
    have c0 : ¬ n < 0 := fun h => c (.inl h)
    have c1 : ¬ n > 31 := fun h => c (.inr (.inl h))
    split
    · rename_i c2
      have c3 : n = 31 := Classical.byContradiction fun h => c (.inr (.inr ⟨c2, h⟩))
      rw [c2, c3]; rfl
    · rename_i c2
      replace c2 : st = false := by simpa using c2
      split
      · rename_i c3; rw [c2, c3]; rfl
      · rename_i c3
        obtain ⟨k, rfl⟩ : ∃ k : Nat, n = k := ⟨n.toNat, by omega⟩
        rw [c2]
        exact regL_at (by omega) (by rw [Int.toNat_natCast])
theorem regText_err {n : Int} {st : Bool} : (regTextL n st = ([], 1) ∧ (n < 0 ∨ n > 31 ∨ (st = true ∧ n ≠ 31))) ∨ (regTextL n st).2 = 0 := by
  by_cases c : n < 0 ∨ n > 31 ∨ (st = true ∧ n ≠ 31)
  · exact .inl ⟨by unfold regTextL; rw [if_pos c], c⟩
  · refine .inr ?_
    unfold regTextL
    rw [if_neg c]
    split
    · rfl
    · split <;> rfl
theorem regL_e (s : List UInt8) : (regL s).2.2 = 0 ∨ (regL s).2.2 = 3 := by
  rcases regL_cases s with ⟨-, h2⟩ | ⟨-, h2⟩ | ⟨n, -, -, h2⟩ | ⟨-, -, -, h2⟩ <;> rw [h2]
  · exact .inl rfl
  · exact .inl rfl
  · exact .inl rfl
  · exact .inr rfl
theorem regL_i64 (s : List UInt8) : i64ok (regL s).1 := by
  rcases regL_cases s with ⟨-, h2⟩ | ⟨-, h2⟩ | ⟨n, hn, -, h2⟩ | ⟨-, -, -, h2⟩ <;> rw [h2]
  · decide
  · decide
  · show i64ok (n : Int); unfold i64ok; omega
  · decide
theorem ba_back (s : ByteArray) : (⟨s.data.toList.toArray⟩ : ByteArray) = s := by cases s; rfl
def regsTail (n : Int) (st : Bool) (B : World) (u : World) : Prop := Below B.heap.size B u
set_option maxRecDepth 100000 in
set_option maxHeartbeats 4000000 in
theorem OperandRegs_walk (s : ByteArray) (hs : s.size ≤ reachBytes) (n : Int) (hn : i64ok n) (st : Bool) (w : World) (hT : TabO w) : Calls Tryd.prog 8 #[.string s, .int .i64 n, .bool st] w (RetB (.bool true) w) := by
  have HT := Lib.hid hT
  obtain ⟨r1, r2, r3, hr⟩ : ∃ r1 r2 r3, regL s.data.toList = (r1, r2, r3) := ⟨_, _, _, rfl⟩
  have HReg : Hid (∀ u, TabO u → Calls Tryd.prog 20 #[.string s] u (RetB (regV (r1, r2, r3)) u)) := Lib.hid fun u hu => by have := Reg_any s u hu.2.1; rwa [hr] at this
  have HRT : Hid (r3 = 0 → ∀ u, TabO u → Calls Tryd.prog 22 #[.int .i64 r1, .bool r2] u (RetB (.tuple #[.string s, .int .i64 0]) u)) := Lib.hid fun h u hu => by
    have e := regText_back (s := s.data.toList) (by rw [hr]; exact h)
    have hi := regL_i64 s.data.toList
    rw [hr] at e hi
    have := RegText_any r1 hi r2 u hu.2.1
    rw [e] at this
    rwa [ba_back] at this
  have h3 : r3 = 0 ∨ r3 = 3 := by have := regL_e s.data.toList; rwa [hr] at this
  obtain ⟨K, er, hk⟩ : ∃ K er, regTextL n st = (K, er) := ⟨_, _, rfl⟩
  have HR2 : Hid (∀ u, TabO u → Calls Tryd.prog 22 #[.int .i64 n, .bool st] u (RetB (.tuple #[.string ⟨K.toArray⟩, .int .i64 er]) u)) := Lib.hid fun u hu => by have := RegText_any n hn st u hu.2.1; rwa [hk] at this
  have HB : Hid ((K = [] ∧ er = 1 ∧ (n < 0 ∨ n > 31 ∨ (st = true ∧ n ≠ 31))) ∨ (er = 0 ∧ ∀ u, TabO u → Calls Tryd.prog 20 #[.string ⟨K.toArray⟩] u (RetB (regV (n, st, 0)) u))) := Lib.hid (by
    rcases regText_err (n := n) (st := st) with ⟨h1, h2⟩ | h1
    · rw [hk] at h1
      cases h1
      exact .inl ⟨rfl, rfl, h2⟩
    · have e := reg_back h1
      rw [hk] at h1 e
      refine .inr ⟨h1, fun u hu => ?_⟩
      have := Reg_any ⟨K.toArray⟩ u hu.2.1
      rwa [show (⟨K.toArray⟩ : ByteArray).data.toList = K by simp, e] at this)
  have HGv : Hid (∀ u, TabO u → Calls Tryd.prog 26 #[] u (RetB (.bool true) u)) := Lib.hid given_true
  clear hr hk hn hs hT
  go_enter Tryd.func8, Tryd.ntmps8
  go_wp2_with fail
  refine (HReg.out _ HT.out).mono ?_
  rintro e u1 ⟨rfl, hb⟩
  have HB1 := Lib.hid hb
  clear hb
  rcases h3 with rfl | rfl
  · go_wp2_with fail
    refine (HRT.out (by simp) _ (HT.out.next HB1.out)).mono ?_
    rintro e u2 ⟨rfl, hb⟩
    have HB2 := Lib.hid (HB1.out.trans (hb.mono HB1.out.size))
    clear hb
    go_wp2_with fail
    refine (HR2.out _ (HT.out.next HB2.out)).mono ?_
    rintro e u3 ⟨rfl, hb⟩
    have HB3 := Lib.hid (HB2.out.trans (hb.mono HB2.out.size))
    clear hb
    rcases HB.out with ⟨hK, hE, hc⟩ | ⟨hE, hR⟩
    · subst hK hE
      have HC := Lib.hid hc
      clear hc HB
      go_wp2_with fail
      refine (HGv.out _ (HT.out.next HB3.out)).mono ?_
      rintro e v1 ⟨rfl, hb⟩
      have HZ := Lib.hid (HB3.out.trans (hb.mono HB3.out.size))
      clear hb
      rcases HC.out with c1 | c1 | ⟨c1, c2⟩
      · go_wp2
        go_ret
        exact ⟨by simp, HZ.out⟩
      · have c0 : ¬ n < 0 := by omega
        go_wp2
        go_ret
        exact ⟨by simp, HZ.out⟩
      · by_cases c0 : n < 0
        · go_wp2
          go_ret
          exact ⟨by simp, HZ.out⟩
        by_cases c3 : 31 < n
        · go_wp2
          go_ret
          exact ⟨by simp, HZ.out⟩
        have c4 : (n != 31) = true := by rw [bne_iff_ne]; exact c2
        subst c1
        clear c2
        go_wp2
        go_ret
        exact ⟨by simp, HZ.out⟩
    · subst hE
      have HR := Lib.hid hR
      clear hR HB
      go_wp2_with fail
      refine (HR.out _ (HT.out.next HB3.out)).mono ?_
      rintro e v1 ⟨rfl, hb⟩
      have HY := Lib.hid (HB3.out.trans (hb.mono HB3.out.size))
      clear hb
      go_wp2_with fail
      refine (HGv.out _ (HT.out.next HY.out)).mono ?_
      rintro e v2 ⟨rfl, hb⟩
      have HZ := Lib.hid (HY.out.trans (hb.mono HY.out.size))
      clear hb
      go_wp2
      go_ret
      exact ⟨by simp, HZ.out⟩
  · go_wp2_with fail
    refine (HR2.out _ (HT.out.next HB1.out)).mono ?_
    rintro e u3 ⟨rfl, hb⟩
    have HB3 := Lib.hid (HB1.out.trans (hb.mono HB1.out.size))
    clear hb
    rcases HB.out with ⟨hK, hE, hc⟩ | ⟨hE, hR⟩
    · subst hK hE
      have HC := Lib.hid hc
      clear hc HB
      go_wp2_with fail
      refine (HGv.out _ (HT.out.next HB3.out)).mono ?_
      rintro e v1 ⟨rfl, hb⟩
      have HZ := Lib.hid (HB3.out.trans (hb.mono HB3.out.size))
      clear hb
      rcases HC.out with c1 | c1 | ⟨c1, c2⟩
      · go_wp2
        go_ret
        exact ⟨by simp, HZ.out⟩
      · have c0 : ¬ n < 0 := by omega
        go_wp2
        go_ret
        exact ⟨by simp, HZ.out⟩
      · by_cases c0 : n < 0
        · go_wp2
          go_ret
          exact ⟨by simp, HZ.out⟩
        by_cases c3 : 31 < n
        · go_wp2
          go_ret
          exact ⟨by simp, HZ.out⟩
        have c4 : (n != 31) = true := by rw [bne_iff_ne]; exact c2
        subst c1
        clear c2
        go_wp2
        go_ret
        exact ⟨by simp, HZ.out⟩
    · subst hE
      have HR := Lib.hid hR
      clear hR HB
      go_wp2_with fail
      refine (HR.out _ (HT.out.next HB3.out)).mono ?_
      rintro e v1 ⟨rfl, hb⟩
      have HY := Lib.hid (HB3.out.trans (hb.mono HB3.out.size))
      clear hb
      go_wp2_with fail
      refine (HGv.out _ (HT.out.next HY.out)).mono ?_
      rintro e v2 ⟨rfl, hb⟩
      have HZ := Lib.hid (HY.out.trans (hb.mono HY.out.size))
      clear hb
      go_wp2
      go_ret
      exact ⟨by simp, HZ.out⟩
end Go.Proofs.YtngoipcjipbelaaDoor
