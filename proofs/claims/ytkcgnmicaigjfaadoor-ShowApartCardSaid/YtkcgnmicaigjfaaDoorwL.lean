/- show's laws: the document's rows; ShowApart. -/
import Derived.Test.YtkcgnmicaigjfaaDoorwK
import Derived.Deep.QuietTactic
import Derived.BigQuiet
namespace Go.Proofs.YtkcgnmicaigjfaaDoor
set_option linter.unusedVariables false
set_option linter.unusedSimpArgs false
open Go.ChangeShapes Go.WideShapes Go.Deep Go.RowKit

set_option maxRecDepth 100000 in
set_option maxHeartbeats 1000000 in
/-- Two rows of the same texts. -/
theorem sameT_any (w : World) (a a' : Option Addr) (n c c' : Nat) (l : List (List UInt8)) (hn : n ≤ 1000000) (h : SL enT 1 w w.heap.size a n l) (h' : SL enT 1 w w.heap.size a' n l) :
    Calls Tryd.prog 8 #[.slice a n c, .slice a' n c'] w (RetB (.bool true) w) := by
  have t0 : ((n : Int) != (n : Int)) = false := by simp
  have hni : (n : Int) ≤ 1000000 := by omega
  have H1 := Lib.hid (fun u (hu : Below w.heap.size w u) => h.next hu)
  have H2 := Lib.hid (fun u (hu : Below w.heap.size w u) => h'.next hu)
  have HLn := Lib.hid h.len
  clear h h' hn
  go_enter Tryd.func8, Tryd.ntmps8
  go_wp2_with fail
  go_loopw [5] (fun i wr => ∃ (k : Nat) (wx : World), wx = wr ∧ k ≤ n ∧ i = .int .i64 k ∧ Hid (Below w.heap.size w wx)) (fun i _ => n - (intOf i).toNat)
  case atStart => exact ⟨0, _, rfl, by omega, rfl, Lib.hid (Below.refl _ _)⟩
  case round =>
    obtain ⟨k, wx, rfl, hk, rfl, HB⟩ := hrel
    by_cases hlt : k < n
    · have hlti : (k : Int) < (n : Int) := by omega
      have HLT := Lib.hid hlt
      have hk1 : k < l.length := by rw [← HLn.out]; exact hlt
      obtain ⟨b1, o1, e1, -, hc1⟩ := (H1.out wx HB.out).cells (by intro e; rw [e] at hk1; simp at hk1)
      obtain ⟨b2, o2, e2, -, hc2⟩ := (H2.out wx HB.out).cells (by intro e; rw [e] at hk1; simp at hk1)
      subst e1
      subst e2
      have c1 := hc1 k hk1 0 (by omega)
      have c2 := hc2 k hk1 0 (by omega)
      simp only [enT, Nat.add_zero, Nat.mul_one, List.getElem?_cons_zero] at c1 c2
      obtain ⟨x, hx⟩ : ∃ x, x = l[k] := ⟨_, rfl⟩
      rw [← hx] at c1 c2
      have t1 : ((⟨x.toArray⟩ : ByteArray).toList == (⟨x.toArray⟩ : ByteArray).toList) = true := by simp
      have t2 : ((⟨x.toArray⟩ : ByteArray).toList != (⟨x.toArray⟩ : ByteArray).toList) = false := by simp
      generalize (⟨x.toArray⟩ : ByteArray) = xb at *
      clear hc1 hc2 hx hk1 hlt hk
      go_wp2
      go_quiet (fail)
      go_wp2
      go_roundw
      case rel => exact ⟨k + 1, _, rfl, by have := HLT.out; omega, by go_num, Lib.hid (below_drewN HB.out _)⟩
      case measure => have := HLT.out; simp [intOf]; omega
    · have hlti : ¬ (k : Int) < (n : Int) := by omega
      clear hk hlt
      go_wp2
      go_ret
      exact ⟨rfl, HB.out⟩

theorem eq_inst (i j : In) : ∀ w, (Sem.run Tryd.prog (binOp BinOp.eql 24 (inV i) (inV j)) w) = Result.ok (.bool (sameI i j)) w := by
  intro w
  obtain ⟨o, d, n, m, a, x, k, h, t, c⟩ := i
  obtain ⟨o', d', n', m', a', x', k', h', t', c'⟩ := j
  simp [go_sem, sameI]
  repeat' split
  all_goals simp_all
theorem sameI_iff {i j : In} : sameI i j = true ↔ i = j := by
  cases i; cases j
  simp [sameI, In.mk.injEq, and_assoc]

theorem d1 : digL 10 1 = [49] := by rw [digL_small (by decide)]; decide
theorem d8 : digL 10 8 = [56] := by rw [digL_small (by decide)]; decide
theorem d12 : digL 10 12 = [49, 50] := by rw [digL_big (by decide) (by decide), digL_small (by decide)]; decide
theorem x64 : digL 16 64 = [52, 48] := by rw [digL_big (by decide) (by decide), digL_small (by decide)]; decide
theorem x68 : digL 16 68 = [52, 52] := by rw [digL_big (by decide) (by decide), digL_small (by decide)]; decide
theorem x0 : digL 16 0 = [48] := by rw [digL_small (by decide)]; decide
abbrev inA : In := ⟨4, 1, 31, 0, 0, 1, 0, 0, 12, 0⟩
abbrev inC2 : In := ⟨31, 0, 0, 0, 0, -8, 0, 0, 0, 1⟩
theorem isA : isI inA = true := by kernel_rfl
theorem isC : isI inC2 = true := by kernel_rfl
theorem isZ : isI inZ = false := by kernel_rfl
theorem bA : InB inA := ⟨by unfold i64B; decide, by unfold i64B; decide, by unfold i64B; decide, by unfold i64B; decide, by unfold i64B; decide, by unfold i64B; decide, by decide, by unfold i64B; decide, by unfold i64B; decide, by unfold i64B; decide⟩
theorem bC : InB inC2 := ⟨by unfold i64B; decide, by unfold i64B; decide, by unfold i64B; decide, by unfold i64B; decide, by unfold i64B; decide, by unfold i64B; decide, by decide, by unfold i64B; decide, by unfold i64B; decide, by unfold i64B; decide⟩
theorem bZ : InB inZ := ⟨by unfold i64B; decide, by unfold i64B; decide, by unfold i64B; decide, by unfold i64B; decide, by unfold i64B; decide, by unfold i64B; decide, by decide, by unfold i64B; decide, by unfold i64B; decide, by unfold i64B; decide⟩
theorem sA : showS inA = ([97, 100, 100, 32, 120, 49, 44, 32, 115, 112, 44, 32, 35, 49, 44, 32, 108, 115, 108, 32, 35, 49, 50], 0) := by
  have h : showT inA = [97, 100, 100] ++ joinP [[120, 49], [115, 112], 35 :: digL 10 1, [108, 115, 108] ++ 32 :: 35 :: digL 10 12] := by kernel_rfl
  unfold showS
  rw [if_pos isA, h, d1, d12]
  rfl
theorem sC : showS inC2 = ([98, 46, 110, 101, 32, 35, 45, 56], 0) := by
  have h : showT inC2 = [98, 46, 110, 101] ++ joinP [35 :: 45 :: digL 10 8] := by kernel_rfl
  unfold showS
  rw [if_pos isC, h, d8]
  rfl
theorem sZ : showS inZ = ([], 1) := by unfold showS; rw [if_neg (by rw [isZ]; decide)]
theorem wNop : wordT 3573751839 = [110, 111, 112] := by
  have h : wordT 3573751839 = [110, 111, 112] ++ joinP [] := by kernel_rfl
  rw [h]; rfl
theorem wZero : wordT 0 = [46, 119, 111, 114, 100, 32, 48, 120, 48] := by
  have h : wordT 0 = [46, 119, 111, 114, 100, 32] ++ 48 :: 120 :: digL 16 0 := by kernel_rfl
  rw [h, x0]; rfl
abbrev rowsT : List (List UInt8) := [[48, 120, 52, 48, 58, 32, 110, 111, 112], [48, 120, 52, 52, 58, 32, 46, 119, 111, 114, 100, 32, 48, 120, 48]]
theorem liA : listS 64 [31, 32, 3, 213, 0, 0, 0, 0] = (rowsT, 0) := by
  have h : listS 64 [31, 32, 3, 213, 0, 0, 0, 0] = ([(48 :: 120 :: digL 16 64) ++ [58, 32] ++ wordT 3573751839, (48 :: 120 :: digL 16 68) ++ [58, 32] ++ wordT 0], 0) := by
    unfold listS
    rw [if_neg (by decide), if_neg (by decide)]
    rfl
  rw [h, x64, x68, wNop, wZero]
  rfl
theorem liB : listS 2 [] = ([], 5) := by unfold listS; rw [if_neg (by decide), if_pos (by decide)]
set_option maxRecDepth 100000 in
set_option maxHeartbeats 4000000 in
theorem shown_any (w : World) (hT : TabS w) : Calls Tryd.prog 6 #[] w (RetB (.bool true) w) := by
  have HA : Hid (∀ u, Below w.heap.size w u → Calls Tryd.prog 5 #[inV inA] u (RetB (.tuple #[.string ⟨#[97, 100, 100, 32, 120, 49, 44, 32, 115, 112, 44, 32, 35, 49, 44, 32, 108, 115, 108, 32, 35, 49, 50]⟩, .int .i64 0]) u)) := Lib.hid fun u hu => by have := SText_any inA bA u (hT.next hu); rwa [sA] at this
  have HC : Hid (∀ u, Below w.heap.size w u → Calls Tryd.prog 5 #[inV inC2] u (RetB (.tuple #[.string ⟨#[98, 46, 110, 101, 32, 35, 45, 56]⟩, .int .i64 0]) u)) := Lib.hid fun u hu => by have := SText_any inC2 bC u (hT.next hu); rwa [sC] at this
  have HZ : Hid (∀ u, Below w.heap.size w u → Calls Tryd.prog 5 #[inV inZ] u (RetB (.tuple #[.string ⟨#[]⟩, .int .i64 1]) u)) := Lib.hid fun u hu => by have := SText_any inZ bZ u (hT.next hu); rwa [sZ] at this
  have HL : Hid (∀ u, Below w.heap.size w u → Calls Tryd.prog 7 #[.int .u64 64, .string ⟨#[31, 32, 3, 213, 0, 0, 0, 0]⟩] u (LiP (rowsT, 0) u)) := Lib.hid fun u hu => by have := SList_any 64 (by decide) ⟨#[31, 32, 3, 213, 0, 0, 0, 0]⟩ (by decide) u (hT.next hu); rwa [liA] at this
  have HM : Hid (∀ u, Below w.heap.size w u → Calls Tryd.prog 7 #[.int .u64 2, .string ⟨#[]⟩] u (LiP ([], 5) u)) := Lib.hid fun u hu => by have := SList_any 2 (by decide) ⟨#[]⟩ (by decide) u (hT.next hu); rwa [liB] at this
  have HB0 : Hid (Below w.heap.size w w) := Lib.hid (Below.refl _ _)
  clear hT
  go_enter Tryd.func6, Tryd.ntmps6
  go_wp2_with fail
  refine (HA.out _ HB0.out).mono ?_
  rintro e u1 ⟨rfl, hb⟩
  have HB1 := Lib.hid (after HB0.out hb)
  clear hb
  go_wp2_with fail
  refine (HC.out _ HB1.out).mono ?_
  rintro e u2 ⟨rfl, hb⟩
  have HB2 := Lib.hid (after HB1.out hb)
  clear hb
  go_wp2_with fail
  refine (HZ.out _ HB2.out).mono ?_
  rintro e u3 ⟨rfl, hb⟩
  have HB3 := Lib.hid (after HB2.out hb)
  clear hb
  go_wp2_with fail
  refine (HL.out _ HB3.out).mono ?_
  rintro e u4 ⟨la, lc, rfl, hsl, -, hb⟩
  have HB4 := Lib.hid (after HB3.out hb)
  have HS4 := Lib.hid hsl
  clear hb hsl
  go_wp2_with fail
  refine (HM.out _ HB4.out).mono ?_
  rintro e u5 ⟨ma, mc, rfl, -, -, hb⟩
  have HB5 := Lib.hid (after HB4.out hb)
  have HS5 := Lib.hid (HS4.out.next hb)
  clear hb
  have HSame : Hid (Calls Tryd.prog 8 #[.slice la 2 lc, .slice (some ⟨u5.heap.size, 0, none⟩) 2 2] (u5.alloc (.cells #[.string ⟨#[48, 120, 52, 48, 58, 32, 110, 111, 112]⟩, .string ⟨#[48, 120, 52, 52, 58, 32, 46, 119, 111, 114, 100, 32, 48, 120, 48]⟩] 9)) (RetB (.bool true) (u5.alloc (.cells #[.string ⟨#[48, 120, 52, 48, 58, 32, 110, 111, 112]⟩, .string ⟨#[48, 120, 52, 52, 58, 32, 46, 119, 111, 114, 100, 32, 48, 120, 48]⟩] 9)))) := Lib.hid (by
    refine sameT_any _ la (some ⟨u5.heap.size, 0, none⟩) 2 lc 2 rowsT (by decide) (HS5.out.next (lit_b u5 _)) ?_
    rw [World.size_alloc]
    exact SL.lit u5 9 rowsT enT_len (by decide) _ rfl 2 rfl)
  have HB6 : Hid (Below w.heap.size w (u5.alloc (.cells #[.string ⟨#[48, 120, 52, 48, 58, 32, 110, 111, 112]⟩, .string ⟨#[48, 120, 52, 52, 58, 32, 46, 119, 111, 114, 100, 32, 48, 120, 48]⟩] 9))) := Lib.hid (after HB5.out (lit_b u5 _))
  go_wp2_with fail
  refine HSame.out.mono ?_
  rintro e u6 ⟨rfl, hb⟩
  have HB7 := Lib.hid (after HB6.out hb)
  clear hb
  go_wp2
  go_ret
  exact ⟨rfl, HB7.out⟩
set_option maxRecDepth 100000 in
set_option maxHeartbeats 8000000 in
theorem apart_i (i : In) (hi : InB i) (j : In) (hj : InB j) (w : World) (hT : TabS w) (h1 : isI i = false) : Calls Tryd.prog 3 #[inV i, inV j] w (RetB (.bool true) w) := by
  have HS : Hid (∀ u, Below w.heap.size w u → Calls Tryd.prog 6 #[] u (RetB (.bool true) u)) := Lib.hid fun u hu => shown_any u (hT.next hu)
  have HI : Hid (∀ u, Below w.heap.size w u → Calls Tryd.prog 5 #[inV i] u (RetB (stV (showS i)) u)) := Lib.hid fun u hu => SText_any i hi u (hT.next hu)
  have HJ : Hid (∀ u, Below w.heap.size w u → Calls Tryd.prog 5 #[inV j] u (RetB (stV (showS j)) u)) := Lib.hid fun u hu => SText_any j hj u (hT.next hu)
  have hA := (Ten.made w i 24).below ((Below.refl (w.alloc (.cells (inC i) 24)).heap.size _).alloc (Nat.le_refl _) (.cells (inC j) 24)) (by simp)
  have hY := Ten.made (w.alloc (.cells (inC i) 24)) j 24
  rw [World.size_alloc] at hY
  obtain ⟨X, hX⟩ : ∃ X, X = w.heap.size := ⟨_, rfl⟩
  obtain ⟨W0, hW0⟩ : ∃ W0, W0 = (w.alloc (.cells (inC i) 24)).alloc (.cells (inC j) 24) := ⟨_, rfl⟩
  have HB0 : Hid (Below w.heap.size w W0) := Lib.hid (by rw [hW0]; exact after (lit_b w _) (lit_b _ _))
  have HXl : Hid (X + 1 < W0.heap.size) := Lib.hid (by rw [hX, hW0]; simp)
  rw [← hW0, ← hX] at hA hY
  have HA := Lib.hid hA
  have HY := Lib.hid hY
  have HW0 := Lib.hid hW0.symm
  have HX := Lib.hid hX.symm
  have e1 : showS i = ([], 1) := by unfold showS; rw [h1]; rfl
  rw [e1] at HI
  obtain ⟨sj, hsj⟩ : ∃ sj, sj = showS j := ⟨_, rfl⟩
  rw [← hsj] at HJ
  clear e1 h1 hsj
  clear hT hi hj hA hY hX
  obtain ⟨o, d, n, m, a, x, k, h, t, c⟩ := i
  obtain ⟨o', d', n', m', a', x', k', h', t', c'⟩ := j
  obtain ⟨x0, x1, x2, x3, x4, x5, x6, x7, x8, x9⟩ := HA.out
  rw [hW0] at x0 x1 x2 x3 x4 x5 x6 x7 x8 x9
  rw [← HX.out] at x0 x1 x2 x3 x4 x5 x6 x7 x8 x9
  clear hW0
  go_enter Tryd.func3, Tryd.ntmps3
  go_wp2_with fail
  rw [HW0.out, HX.out]
  clear x0 x1 x2 x3 x4 x5 x6 x7 x8 x9
  refine (HI.out _ HB0.out).mono ?_
  rintro e u1 ⟨rfl, hb⟩
  have HB1 := Lib.hid (after HB0.out hb)
  have HA1 := Lib.hid (HA.out.below hb (by have := HXl.out; omega))
  have HY1 := Lib.hid (HY.out.below hb HXl.out)
  have HXl1 : Hid (X + 1 < u1.heap.size) := Lib.hid (Nat.lt_of_lt_of_le HXl.out hb.size)
  clear hb
  obtain ⟨x0, x1, x2, x3, x4, x5, x6, x7, x8, x9⟩ := HY1.out
  go_wp2_with fail
  clear x0 x1 x2 x3 x4 x5 x6 x7 x8 x9
  refine (HJ.out _ HB1.out).mono ?_
  rintro e u2 ⟨rfl, hb⟩
  have HB2 := Lib.hid (after HB1.out hb)
  have HA2 := Lib.hid (HA1.out.below hb (by have := HXl1.out; omega))
  have HY2 := Lib.hid (HY1.out.below hb HXl1.out)
  have HXl2 : Hid (X + 1 < u2.heap.size) := Lib.hid (Nat.lt_of_lt_of_le HXl1.out hb.size)
  clear hb
  go_wp2_with fail
  refine (HS.out _ HB2.out).mono ?_
  rintro e u3 ⟨rfl, hb⟩
  have HB3 := Lib.hid (after HB2.out hb)
  clear hb
  go_wp2
  go_ret
  exact ⟨rfl, HB3.out⟩
set_option maxRecDepth 100000 in
set_option maxHeartbeats 8000000 in
theorem apart_j (i : In) (hi : InB i) (j : In) (hj : InB j) (w : World) (hT : TabS w) (h1 : isI i = true) (h2 : isI j = false) : Calls Tryd.prog 3 #[inV i, inV j] w (RetB (.bool true) w) := by
  have HS : Hid (∀ u, Below w.heap.size w u → Calls Tryd.prog 6 #[] u (RetB (.bool true) u)) := Lib.hid fun u hu => shown_any u (hT.next hu)
  have HI : Hid (∀ u, Below w.heap.size w u → Calls Tryd.prog 5 #[inV i] u (RetB (stV (showS i)) u)) := Lib.hid fun u hu => SText_any i hi u (hT.next hu)
  have HJ : Hid (∀ u, Below w.heap.size w u → Calls Tryd.prog 5 #[inV j] u (RetB (stV (showS j)) u)) := Lib.hid fun u hu => SText_any j hj u (hT.next hu)
  have hA := (Ten.made w i 24).below ((Below.refl (w.alloc (.cells (inC i) 24)).heap.size _).alloc (Nat.le_refl _) (.cells (inC j) 24)) (by simp)
  have hY := Ten.made (w.alloc (.cells (inC i) 24)) j 24
  rw [World.size_alloc] at hY
  obtain ⟨X, hX⟩ : ∃ X, X = w.heap.size := ⟨_, rfl⟩
  obtain ⟨W0, hW0⟩ : ∃ W0, W0 = (w.alloc (.cells (inC i) 24)).alloc (.cells (inC j) 24) := ⟨_, rfl⟩
  have HB0 : Hid (Below w.heap.size w W0) := Lib.hid (by rw [hW0]; exact after (lit_b w _) (lit_b _ _))
  have HXl : Hid (X + 1 < W0.heap.size) := Lib.hid (by rw [hX, hW0]; simp)
  rw [← hW0, ← hX] at hA hY
  have HA := Lib.hid hA
  have HY := Lib.hid hY
  have HW0 := Lib.hid hW0.symm
  have HX := Lib.hid hX.symm
  have e1 : showS i = (showT i, 0) := by unfold showS; rw [h1]; rfl
  have e2 : showS j = ([], 1) := by unfold showS; rw [h2]; rfl
  rw [e1] at HI
  rw [e2] at HJ
  clear e1 e2 h1 h2
  generalize showT i = T1 at *
  clear hT hi hj hA hY hX
  obtain ⟨o, d, n, m, a, x, k, h, t, c⟩ := i
  obtain ⟨o', d', n', m', a', x', k', h', t', c'⟩ := j
  obtain ⟨x0, x1, x2, x3, x4, x5, x6, x7, x8, x9⟩ := HA.out
  rw [hW0] at x0 x1 x2 x3 x4 x5 x6 x7 x8 x9
  rw [← HX.out] at x0 x1 x2 x3 x4 x5 x6 x7 x8 x9
  clear hW0
  go_enter Tryd.func3, Tryd.ntmps3
  go_wp2_with fail
  rw [HW0.out, HX.out]
  clear x0 x1 x2 x3 x4 x5 x6 x7 x8 x9
  refine (HI.out _ HB0.out).mono ?_
  rintro e u1 ⟨rfl, hb⟩
  have HB1 := Lib.hid (after HB0.out hb)
  have HA1 := Lib.hid (HA.out.below hb (by have := HXl.out; omega))
  have HY1 := Lib.hid (HY.out.below hb HXl.out)
  have HXl1 : Hid (X + 1 < u1.heap.size) := Lib.hid (Nat.lt_of_lt_of_le HXl.out hb.size)
  clear hb
  obtain ⟨x0, x1, x2, x3, x4, x5, x6, x7, x8, x9⟩ := HY1.out
  go_wp2_with fail
  clear x0 x1 x2 x3 x4 x5 x6 x7 x8 x9
  refine (HJ.out _ HB1.out).mono ?_
  rintro e u2 ⟨rfl, hb⟩
  have HB2 := Lib.hid (after HB1.out hb)
  have HA2 := Lib.hid (HA1.out.below hb (by have := HXl1.out; omega))
  have HY2 := Lib.hid (HY1.out.below hb HXl1.out)
  have HXl2 : Hid (X + 1 < u2.heap.size) := Lib.hid (Nat.lt_of_lt_of_le HXl1.out hb.size)
  clear hb
  go_wp2_with fail
  refine (HS.out _ HB2.out).mono ?_
  rintro e u3 ⟨rfl, hb⟩
  have HB3 := Lib.hid (after HB2.out hb)
  clear hb
  go_wp2
  go_ret
  exact ⟨rfl, HB3.out⟩
set_option maxRecDepth 100000 in
set_option maxHeartbeats 8000000 in
theorem apart_yes (i : In) (hi : InB i) (j : In) (hj : InB j) (w : World) (hT : TabS w) (h1 : isI i = true) (h2 : isI j = true) : Calls Tryd.prog 3 #[inV i, inV j] w (RetB (.bool true) w) := by
  have HS : Hid (∀ u, Below w.heap.size w u → Calls Tryd.prog 6 #[] u (RetB (.bool true) u)) := Lib.hid fun u hu => shown_any u (hT.next hu)
  have HI : Hid (∀ u, Below w.heap.size w u → Calls Tryd.prog 5 #[inV i] u (RetB (stV (showS i)) u)) := Lib.hid fun u hu => SText_any i hi u (hT.next hu)
  have HJ : Hid (∀ u, Below w.heap.size w u → Calls Tryd.prog 5 #[inV j] u (RetB (stV (showS j)) u)) := Lib.hid fun u hu => SText_any j hj u (hT.next hu)
  have hA := (Ten.made w i 24).below ((Below.refl (w.alloc (.cells (inC i) 24)).heap.size _).alloc (Nat.le_refl _) (.cells (inC j) 24)) (by simp)
  have hY := Ten.made (w.alloc (.cells (inC i) 24)) j 24
  rw [World.size_alloc] at hY
  obtain ⟨X, hX⟩ : ∃ X, X = w.heap.size := ⟨_, rfl⟩
  obtain ⟨W0, hW0⟩ : ∃ W0, W0 = (w.alloc (.cells (inC i) 24)).alloc (.cells (inC j) 24) := ⟨_, rfl⟩
  have HB0 : Hid (Below w.heap.size w W0) := Lib.hid (by rw [hW0]; exact after (lit_b w _) (lit_b _ _))
  have HXl : Hid (X + 1 < W0.heap.size) := Lib.hid (by rw [hX, hW0]; simp)
  rw [← hW0, ← hX] at hA hY
  have HA := Lib.hid hA
  have HY := Lib.hid hY
  have HW0 := Lib.hid hW0.symm
  have HX := Lib.hid hX.symm
  have e1 : showS i = (showT i, 0) := by unfold showS; rw [h1]; rfl
  have e2 : showS j = (showT j, 0) := by unfold showS; rw [h2]; rfl
  rw [e1] at HI
  rw [e2] at HJ
  have HE : Hid (∀ v, Sem.run Tryd.prog (binOp .eql 24 (inV i) (inV j)) v = .ok (.bool (sameI i j)) v) := Lib.hid (eq_inst i j)
  have HQ : Hid ((showT i == showT j) = sameI i j) := Lib.hid (by
    rw [Bool.eq_iff_iff, sameI_iff, beq_iff_eq]
    constructor
    · intro h; exact showT_inj h1 h2 hi hj h
    · intro h; rw [h])
  clear e1 e2 h1 h2
  generalize showT i = T1 at *
  generalize showT j = T2 at *
  obtain ⟨Z, hZ⟩ : ∃ Z, Z = sameI i j := ⟨_, rfl⟩
  rw [← hZ] at HE HQ
  clear hZ
  clear hT hi hj hA hY hX
  obtain ⟨o, d, n, m, a, x, k, h, t, c⟩ := i
  obtain ⟨o', d', n', m', a', x', k', h', t', c'⟩ := j
  obtain ⟨x0, x1, x2, x3, x4, x5, x6, x7, x8, x9⟩ := HA.out
  rw [hW0] at x0 x1 x2 x3 x4 x5 x6 x7 x8 x9
  rw [← HX.out] at x0 x1 x2 x3 x4 x5 x6 x7 x8 x9
  clear hW0
  go_enter Tryd.func3, Tryd.ntmps3
  go_wp2_with fail
  rw [HW0.out, HX.out]
  clear x0 x1 x2 x3 x4 x5 x6 x7 x8 x9
  refine (HI.out _ HB0.out).mono ?_
  rintro e u1 ⟨rfl, hb⟩
  have HB1 := Lib.hid (after HB0.out hb)
  have HA1 := Lib.hid (HA.out.below hb (by have := HXl.out; omega))
  have HY1 := Lib.hid (HY.out.below hb HXl.out)
  have HXl1 : Hid (X + 1 < u1.heap.size) := Lib.hid (Nat.lt_of_lt_of_le HXl.out hb.size)
  clear hb
  obtain ⟨x0, x1, x2, x3, x4, x5, x6, x7, x8, x9⟩ := HY1.out
  go_wp2_with fail
  clear x0 x1 x2 x3 x4 x5 x6 x7 x8 x9
  refine (HJ.out _ HB1.out).mono ?_
  rintro e u2 ⟨rfl, hb⟩
  have HB2 := Lib.hid (after HB1.out hb)
  have HA2 := Lib.hid (HA1.out.below hb (by have := HXl1.out; omega))
  have HY2 := Lib.hid (HY1.out.below hb HXl1.out)
  have HXl2 : Hid (X + 1 < u2.heap.size) := Lib.hid (Nat.lt_of_lt_of_le HXl1.out hb.size)
  clear hb
  go_wp2_with fail
  refine (HS.out _ HB2.out).mono ?_
  rintro e u3 ⟨rfl, hb⟩
  have HB3 := Lib.hid (after HB2.out hb)
  have hA3 := HA2.out.below hb (by have := HXl2.out; omega)
  have hY3 := HY2.out.below hb HXl2.out
  have hee := HE.out
  have hqq := HQ.out
  have hzz : (Z == Z) = true := by simp
  obtain ⟨x0, x1, x2, x3, x4, x5, x6, x7, x8, x9⟩ := hA3
  obtain ⟨y0, y1, y2, y3, y4, y5, y6, y7, y8, y9⟩ := hY3
  clear hb
  go_wp2
  go_ret
  exact ⟨rfl, HB3.out⟩
theorem ShowApart_walk (i : In) (hi : InB i) (j : In) (hj : InB j) (w : World) (hT : TabS w) : Calls Tryd.prog 3 #[inV i, inV j] w (RetB (.bool true) w) := by
  cases h1 : isI i
  · exact apart_i i hi j hj w hT h1
  · cases h2 : isI j
    · exact apart_j i hi j hj w hT h1 h2
    · exact apart_yes i hi j hj w hT h1 h2
end Go.Proofs.YtkcgnmicaigjfaaDoor
