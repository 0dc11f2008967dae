/- show's law: ShowList. -/
import Derived.Test.YtkcgnmicaigjfaaDoorwL
namespace Go.Proofs.YtkcgnmicaigjfaaDoor
set_option linter.unusedVariables false
set_option linter.unusedSimpArgs false
open Go.ChangeShapes Go.WideShapes Go.Deep Go.RowKit

/-- What the three lists tell of one another. -/
theorem listS_cases (p : Nat) (hp : p ≤ 1000000) (l m : List UInt8) (hl : l.length ≤ 120) (hm : m.length ≤ 120) :
    listS p l = ([], 5) ∨ (listS p l = (listL p l, 0) ∧ listS (p + l.length) m = ([], 5) ∧ listS p (l ++ m) = ([], 5)) ∨
    (listS p l = (listL p l, 0) ∧ listS (p + l.length) m = (listL (p + l.length) m, 0) ∧ listS p (l ++ m) = (listL p l ++ listL (p + l.length) m, 0) ∧ 4 * (listL p l).length = l.length ∧ 4 * (listL (p + l.length) m).length = m.length) := by
  have G : ∀ (q : Nat) (k : List UInt8), q ≤ 2000000 → k.length ≤ 300 → listS q k = if q % 4 ≠ 0 ∨ k.length % 4 ≠ 0 then ([], 5) else (listL q k, 0) := by
    intro q k hq hk
    unfold listS
    rw [if_neg (by omega)]
  have hlm : (l ++ m).length = l.length + m.length := List.length_append
  rw [G p l (by omega) (by omega), G (p + l.length) m (by omega) (by omega), G p (l ++ m) (by omega) (by omega)]
  by_cases h1 : p % 4 ≠ 0 ∨ l.length % 4 ≠ 0
  · left; rw [if_pos h1]
  · right
    rw [if_neg h1]
    by_cases h2 : m.length % 4 ≠ 0
    · left
      rw [if_pos (show (p + l.length) % 4 ≠ 0 ∨ m.length % 4 ≠ 0 from .inr h2), if_pos (show p % 4 ≠ 0 ∨ (l ++ m).length % 4 ≠ 0 from .inr (by omega))]
      exact ⟨rfl, rfl, rfl⟩
    · right
      rw [if_neg (show ¬ ((p + l.length) % 4 ≠ 0 ∨ m.length % 4 ≠ 0) by omega), if_neg (show ¬ (p % 4 ≠ 0 ∨ (l ++ m).length % 4 ≠ 0) by omega)]
      refine ⟨rfl, rfl, ?_, ?_, ?_⟩
      · rw [listL_app (l.length / 4) p l m (by omega)]
      · rw [listL_len (l.length / 4) p l (by omega)]; omega
      · rw [listL_len (m.length / 4) _ m (by omega)]; omega
set_option maxRecDepth 100000 in
set_option maxHeartbeats 8000000 in
theorem list_a (p : Nat) (hp : p < 18446744073709551616) (A : ByteArray) (hA : A.size ≤ reachBytes) (B : ByteArray) (hB : B.size ≤ reachBytes) (w : World) (hT : TabS w) (h : 120 < A.size) : Calls Tryd.prog 4 #[.int .u64 (p : Int), .string A, .string B] w (RetB (.bool true) w) := by
  have HS : Hid (∀ u, Below w.heap.size w u → Calls Tryd.prog 6 #[] u (RetB (.bool true) u)) := Lib.hid fun u hu => shown_any u (hT.next hu)
  have HB0 : Hid (Below w.heap.size w w) := Lib.hid (Below.refl _ _)
  have t1 : (120 : Int) < (A.size : Int) := by omega
  clear hT hA hB hp
  go_enter Tryd.func4, Tryd.ntmps4
  go_wp2_with fail
  refine (HS.out _ HB0.out).mono ?_
  rintro e v ⟨rfl, hb⟩
  have HBz := Lib.hid (after HB0.out hb)
  clear hb
  go_wp2
  go_ret
  exact ⟨rfl, HBz.out⟩
set_option maxRecDepth 100000 in
set_option maxHeartbeats 8000000 in
theorem list_b (p : Nat) (hp : p < 18446744073709551616) (A : ByteArray) (hA : A.size ≤ reachBytes) (B : ByteArray) (hB : B.size ≤ reachBytes) (w : World) (hT : TabS w) (h0 : ¬ 120 < A.size) (h : 120 < B.size) : Calls Tryd.prog 4 #[.int .u64 (p : Int), .string A, .string B] w (RetB (.bool true) w) := by
  have HS : Hid (∀ u, Below w.heap.size w u → Calls Tryd.prog 6 #[] u (RetB (.bool true) u)) := Lib.hid fun u hu => shown_any u (hT.next hu)
  have HB0 : Hid (Below w.heap.size w w) := Lib.hid (Below.refl _ _)
  have t1 : ¬ (120 : Int) < (A.size : Int) := by omega
  have t2 : (120 : Int) < (B.size : Int) := by omega
  clear hT hA hB hp
  go_enter Tryd.func4, Tryd.ntmps4
  go_wp2_with fail
  refine (HS.out _ HB0.out).mono ?_
  rintro e v ⟨rfl, hb⟩
  have HBz := Lib.hid (after HB0.out hb)
  clear hb
  go_wp2
  go_ret
  exact ⟨rfl, HBz.out⟩
set_option maxRecDepth 100000 in
set_option maxHeartbeats 8000000 in
theorem list_p (p : Nat) (hp : p < 18446744073709551616) (A : ByteArray) (hA : A.size ≤ reachBytes) (B : ByteArray) (hB : B.size ≤ reachBytes) (w : World) (hT : TabS w) (h0 : ¬ 120 < A.size) (h1 : ¬ 120 < B.size) (h : 1000000 < p) : Calls Tryd.prog 4 #[.int .u64 (p : Int), .string A, .string B] w (RetB (.bool true) w) := by
  have HS : Hid (∀ u, Below w.heap.size w u → Calls Tryd.prog 6 #[] u (RetB (.bool true) u)) := Lib.hid fun u hu => shown_any u (hT.next hu)
  have HB0 : Hid (Below w.heap.size w w) := Lib.hid (Below.refl _ _)
  have t1 : ¬ (120 : Int) < (A.size : Int) := by omega
  have t2 : ¬ (120 : Int) < (B.size : Int) := by omega
  have t3 : (1000000 : Int) < (p : Int) := by omega
  clear hT hA hB hp
  go_enter Tryd.func4, Tryd.ntmps4
  go_wp2_with fail
  refine (HS.out _ HB0.out).mono ?_
  rintro e v ⟨rfl, hb⟩
  have HBz := Lib.hid (after HB0.out hb)
  clear hb
  go_wp2
  go_ret
  exact ⟨rfl, HBz.out⟩
set_option maxRecDepth 100000 in
set_option maxHeartbeats 8000000 in
theorem list_in (p : Nat) (hp : p < 18446744073709551616) (A : ByteArray) (hA : A.size ≤ reachBytes) (B : ByteArray) (hB : B.size ≤ reachBytes) (w : World) (hT : TabS w) (h0 : A.size ≤ 120) (h1 : B.size ≤ 120) (h2 : p ≤ 1000000) : Calls Tryd.prog 4 #[.int .u64 (p : Int), .string A, .string B] w (RetB (.bool true) w) := by
  have HS : Hid (∀ u, Below w.heap.size w u → Calls Tryd.prog 6 #[] u (RetB (.bool true) u)) := Lib.hid fun u hu => shown_any u (hT.next hu)
  have HB0 : Hid (Below w.heap.size w w) := Lib.hid (Below.refl _ _)
  have t1 : ¬ (120 : Int) < (A.size : Int) := by omega
  have t2 : ¬ (120 : Int) < (B.size : Int) := by omega
  have t3 : ¬ (1000000 : Int) < (p : Int) := by omega
  have hal : A.data.toList.length = A.size := by simp
  have hbl : B.data.toList.length = B.size := by simp
  have HLa : Hid (∀ u, Below w.heap.size w u → Calls Tryd.prog 7 #[.int .u64 (p : Int), .string A] u (LiP (listS p A.data.toList) u)) := Lib.hid fun u hu => SList_any p hp A hA u (hT.next hu)
  have HLb : Hid (∀ u, Below w.heap.size w u → Calls Tryd.prog 7 #[.int .u64 ((p : Int) + (A.size : Int)), .string B] u (LiP (listS (p + A.size) B.data.toList) u)) := Lib.hid fun u hu => SList_any (p + A.size) (by omega) B hB u (hT.next hu)
  have HLc : Hid (∀ u, Below w.heap.size w u → Calls Tryd.prog 7 #[.int .u64 (p : Int), .string (A ++ B)] u (LiP (listS p (A.data.toList ++ B.data.toList)) u)) := Lib.hid fun u hu => by
    have := SList_any p hp (A ++ B) (by rw [ByteArray.size_append]; unfold reachBytes; omega) u (hT.next hu)
    rwa [cat_list] at this
  have g1 : IntKind.u64.wrap ((p : Int) + (A.size : Int)) = (p : Int) + (A.size : Int) := by rw [IntKind.wrap_u64]; omega
  have g2 : IntKind.u64.wrap (A.size : Int) = (A.size : Int) := by rw [IntKind.wrap_u64]; omega
  have hsa : (A.size : Int) ≤ 120 := by omega
  have hsb : (B.size : Int) ≤ 120 := by omega
  have hpz : (p : Int) ≤ 1000000 := by omega
  rcases listS_cases p h2 A.data.toList B.data.toList (by omega) (by omega) with e1 | ⟨e1, e2, e3⟩ | ⟨e1, e2, e3, e4, e5⟩
  · have HLc0 := HLc
    obtain ⟨L2, k2, hrb⟩ : ∃ L2 k2, listS (p + A.size) B.data.toList = (L2, k2) := ⟨_, _, rfl⟩
    obtain ⟨L3, k3, hrc⟩ : ∃ L3 k3, listS p (A.data.toList ++ B.data.toList) = (L3, k3) := ⟨_, _, rfl⟩
    rw [e1] at HLa
    rw [hrb] at HLb
    rw [hrc] at HLc
    obtain ⟨L1, hL1⟩ : ∃ L1 : List (List UInt8), L1 = [] := ⟨_, rfl⟩
    have hz1 : L1.length = 0 := by rw [hL1]; rfl
    rw [← hL1] at HLa
    clear hT hA hB hp h0 h1 h2 e1 HLc0 hal hbl hrb hrc hL1
    go_enter Tryd.func4, Tryd.ntmps4
    go_wp2_with fail
    refine (HLa.out _ HB0.out).mono ?_
    rintro e u1 ⟨a1, c1, rfl, hs1, hn1, hb⟩
    have HB1 := Lib.hid (after HB0.out hb)
    have HS1 := Lib.hid hs1
    have HN1 := Lib.hid hn1
    clear hb hs1 hn1
    simp only []
    obtain ⟨n1, hn1⟩ : ∃ n1, n1 = L1.length := ⟨_, rfl⟩
    have Hn1 := Lib.hid hn1
    rw [← hn1]
    rw [← hn1] at HS1 HN1
    rw [hz1] at hn1
    subst hn1
    go_wp2_with fail
    refine (HLb.out _ HB1.out).mono ?_
    rintro e u2 ⟨a2, c2, rfl, hs2, hn2, hb⟩
    have HB2 := Lib.hid (after HB1.out hb)
    have HS1b := Lib.hid (HS1.out.next hb)
    have HS2 := Lib.hid hs2
    have HN2 := Lib.hid hn2
    clear hb hs2 hn2 HS1
    simp only []
    obtain ⟨n2, hn2⟩ : ∃ n2, n2 = L2.length := ⟨_, rfl⟩
    have Hn2 := Lib.hid hn2
    rw [← hn2]
    rw [← hn2] at HS2 HN2
    clear hn2
    go_wp2_with fail
    refine (HLc.out _ HB2.out).mono ?_
    rintro e u3 ⟨a3, c3, rfl, hs3, hn3, hb⟩
    have HB3 := Lib.hid (after HB2.out hb)
    have HS1c := Lib.hid (HS1b.out.next hb)
    have HS2c := Lib.hid (HS2.out.next hb)
    have HS3 := Lib.hid hs3
    clear hb hs3 hn3 HS1b HS2
    simp only []
    obtain ⟨n3, hn3⟩ : ∃ n3, n3 = (L3).length := ⟨_, rfl⟩
    rw [← hn3]
    clear hn3
    go_wp2_with fail
    refine (HS.out _ HB3.out).mono ?_
    rintro e v ⟨rfl, hb⟩
    have HBz := Lib.hid (after HB3.out hb)
    clear hb
    go_wp2
    go_ret
    exact ⟨rfl, HBz.out⟩
  · rw [e1] at HLa
    rw [hal] at e2
    rw [e2] at HLb
    rw [e3] at HLc
    clear hT hA hB hp h0 h1 h2 e1 e2 e3 hal hbl
    generalize listL p A.data.toList = L1 at *
    obtain ⟨L2, hL2⟩ : ∃ L2 : List (List UInt8), L2 = [] := ⟨_, rfl⟩
    rw [← hL2] at HLb HLc
    clear hL2
    go_enter Tryd.func4, Tryd.ntmps4
    go_wp2_with fail
    refine (HLa.out _ HB0.out).mono ?_
    rintro e u1 ⟨a1, c1, rfl, hs1, hn1, hb⟩
    have HB1 := Lib.hid (after HB0.out hb)
    have HS1 := Lib.hid hs1
    have HN1 := Lib.hid hn1
    clear hb hs1 hn1
    simp only []
    obtain ⟨n1, hn1⟩ : ∃ n1, n1 = L1.length := ⟨_, rfl⟩
    have Hn1 := Lib.hid hn1
    rw [← hn1]
    rw [← hn1] at HS1 HN1
    clear hn1
    go_wp2_with fail
    refine (HLb.out _ HB1.out).mono ?_
    rintro e u2 ⟨a2, c2, rfl, hs2, hn2, hb⟩
    have HB2 := Lib.hid (after HB1.out hb)
    have HS1b := Lib.hid (HS1.out.next hb)
    have HS2 := Lib.hid hs2
    have HN2 := Lib.hid hn2
    clear hb hs2 hn2 HS1
    simp only []
    obtain ⟨n2, hn2⟩ : ∃ n2, n2 = L2.length := ⟨_, rfl⟩
    have Hn2 := Lib.hid hn2
    rw [← hn2]
    rw [← hn2] at HS2 HN2
    clear hn2
    go_wp2_with fail
    refine (HLc.out _ HB2.out).mono ?_
    rintro e u3 ⟨a3, c3, rfl, hs3, hn3, hb⟩
    have HB3 := Lib.hid (after HB2.out hb)
    have HS1c := Lib.hid (HS1b.out.next hb)
    have HS2c := Lib.hid (HS2.out.next hb)
    have HS3 := Lib.hid hs3
    clear hb hs3 hn3 HS1b HS2
    simp only []
    obtain ⟨n3, hn3⟩ : ∃ n3, n3 = (L2).length := ⟨_, rfl⟩
    rw [← hn3]
    clear hn3
    go_wp2_with fail
    refine (HS.out _ HB3.out).mono ?_
    rintro e v ⟨rfl, hb⟩
    have HBz := Lib.hid (after HB3.out hb)
    clear hb
    go_wp2
    go_ret
    exact ⟨rfl, HBz.out⟩
  · rw [e1] at HLa
    rw [hal] at e2 e3 e5
    rw [e2] at HLb
    rw [e3] at HLc
    have HQ : Hid (4 * (listL p A.data.toList).length = A.size) := Lib.hid (by omega)
    have HQ2 : Hid (4 * (listL (p + A.size) B.data.toList).length = B.size) := Lib.hid (by omega)
    have HSz : Hid (A.size ≤ 120 ∧ B.size ≤ 120) := Lib.hid ⟨h0, h1⟩
    clear hT hA hB hp h0 h1 h2 e1 e2 e3 e4 e5 hal hbl
    generalize listL p A.data.toList = L1 at *
    generalize listL (p + A.size) B.data.toList = L2 at *
    go_enter Tryd.func4, Tryd.ntmps4
    go_wp2_with fail
    refine (HLa.out _ HB0.out).mono ?_
    rintro e u1 ⟨a1, c1, rfl, hs1, hn1, hb⟩
    have HB1 := Lib.hid (after HB0.out hb)
    have HS1 := Lib.hid hs1
    have HN1 := Lib.hid hn1
    clear hb hs1 hn1
    simp only []
    obtain ⟨n1, hn1⟩ : ∃ n1, n1 = L1.length := ⟨_, rfl⟩
    have Hn1 := Lib.hid hn1
    rw [← hn1]
    rw [← hn1] at HS1 HN1
    clear hn1
    go_wp2_with fail
    refine (HLb.out _ HB1.out).mono ?_
    rintro e u2 ⟨a2, c2, rfl, hs2, hn2, hb⟩
    have HB2 := Lib.hid (after HB1.out hb)
    have HS1b := Lib.hid (HS1.out.next hb)
    have HS2 := Lib.hid hs2
    have HN2 := Lib.hid hn2
    clear hb hs2 hn2 HS1
    simp only []
    obtain ⟨n2, hn2⟩ : ∃ n2, n2 = L2.length := ⟨_, rfl⟩
    have Hn2 := Lib.hid hn2
    rw [← hn2]
    rw [← hn2] at HS2 HN2
    clear hn2
    go_wp2_with fail
    refine (HLc.out _ HB2.out).mono ?_
    rintro e u3 ⟨a3, c3, rfl, hs3, hn3, hb⟩
    have HB3 := Lib.hid (after HB2.out hb)
    have HS1c := Lib.hid (HS1b.out.next hb)
    have HS2c := Lib.hid (HS2.out.next hb)
    have HS3 := Lib.hid hs3
    clear hb hs3 hn3 HS1b HS2
    simp only []
    have HLn : Hid ((L1 ++ L2).length = n1 + n2) := Lib.hid (by rw [List.length_append, Hn1.out, Hn2.out])
    have HS3' : Hid (SL enT 1 u3 u3.heap.size a3 (n1 + n2) (L1 ++ L2)) := Lib.hid (by have := HS3.out; simp only [] at this; rwa [HLn.out] at this)
    rw [HLn.out]
    obtain ⟨n3, hn3⟩ : ∃ n3, n3 = n1 + n2 := ⟨_, rfl⟩
    have Hn3 := Lib.hid hn3
    rw [← hn3]
    rw [← hn3] at HS3'
    clear hn3
    obtain ⟨i0, hi, hz0, hz1, hz2⟩ := info_parts infoS
    have HNB : Hid (n1 ≤ 30 ∧ n2 ≤ 30) := Lib.hid (by have := HQ.out; have := HQ2.out; have := HSz.out; have := Hn1.out; have := Hn2.out; omega)
    go_wp2_with (first
      | (at_builtin; refine append_SL rfl _ _ 30 rfl u3.heap.size 9 i0 (.string ⟨#[]⟩) 16 Tryd.underlying30 hi hz0 hz1 hz2 rfl (by decide) enT_len enT_one _ n1 L1 rfl HO1.out a2 n2 c2 L2 rfl HS2d.out HN2.out (by have := HNB.out; unfold maxLen; omega) (by have := HNB.out; omega) (by have := HB4.out.size; omega) ?_
         intro v5 u5 hown hbl hgr
         have HO2 := Lib.hid hown
         have HB5 := Lib.hid (HB4.out.trans hbl)
         clear hown hbl hgr)
      | (at_builtin; refine append_SL rfl _ _ 30 rfl u3.heap.size 9 i0 (.string ⟨#[]⟩) 16 Tryd.underlying30 hi hz0 hz1 hz2 rfl (by decide) enT_len enT_one (.slice none 0 0) 0 [] rfl (World.ownsRow_nil _ _ _ _) a1 n1 c1 L1 rfl HS1c.out HN1.out (by have := HNB.out; unfold maxLen; omega) (by have := HNB.out; omega) (Nat.le_refl _) ?_
         intro v4 u4 hown hbl hgr
         have HO1 : Hid (u4.ownsRow u3.heap.size 9 1 v4 n1 (L1.flatMap enT)) := Lib.hid (by have := hown; rwa [Nat.zero_add, List.nil_append] at this)
         have HB4 := Lib.hid hbl
         have HS2d := Lib.hid (HS2c.out.next hbl)
         clear hown hbl hgr))
    obtain ⟨a5, c5, rfl, hs5, -⟩ := SL.ofOwns enT_len (by omega) HO2.out
    have HB6 := Lib.hid (HB3.out.trans (HB5.out.mono HB3.out.size))
    refine (HS.out _ HB6.out).mono ?_
    rintro e u6 ⟨rfl, hb⟩
    have HB7 := Lib.hid (after HB6.out hb)
    have HS5 := Lib.hid (hs5.next hb)
    have HS6 := Lib.hid (((HS3'.out.below HB5.out).up HB5.out.size).next hb)
    have HSm := Lib.hid (sameT_any u6 a3 a5 n3 c3 c5 (L1 ++ L2) (by have := HNB.out; have := Hn3.out; omega) HS6.out (by rw [Hn3.out]; exact HS5.out))
    have q1 : (4 : Int) * (n1 : Int) = (A.size : Int) := by have := HQ.out; have := Hn1.out; omega
    have q2 : IntKind.i64.wrap ((A.size : Int)) = (A.size : Int) := by rw [IntKind.wrap_i64]; omega
    clear hb hs5
    rw [← Hn3.out]
    go_wp2_with fail
    refine HSm.out.mono ?_
    rintro e u7 ⟨rfl, hb⟩
    have HB8 := Lib.hid (after HB7.out hb)
    clear hb
    go_wp2
    go_ret
    exact ⟨rfl, HB8.out⟩
theorem ShowList_walk (p : Int) (hp : 0 ≤ p ∧ p < 18446744073709551616) (A : ByteArray) (hA : A.size ≤ reachBytes) (B : ByteArray) (hB : B.size ≤ reachBytes) (w : World) (hT : TabS w) : Calls Tryd.prog 4 #[.int .u64 p, .string A, .string B] w (RetB (.bool true) w) := by
  obtain ⟨q, rfl⟩ := Int.eq_ofNat_of_zero_le hp.1
  have hq : q < 18446744073709551616 := by omega
  by_cases h1 : 120 < A.size
  · exact list_a q hq A hA B hB w hT h1
  by_cases h2 : 120 < B.size
  · exact list_b q hq A hA B hB w hT h1 h2
  by_cases h3 : 1000000 < q
  · exact list_p q hq A hA B hB w hT h1 h2 h3
  exact list_in q hq A hA B hB w hT (by omega) (by omega) (by omega)
end Go.Proofs.YtkcgnmicaigjfaaDoor
