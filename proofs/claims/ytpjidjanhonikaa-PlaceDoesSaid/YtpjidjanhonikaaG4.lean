/- What the reference's Same answers; the chapter's row holds: laid answers true. -/
import Derived.Test.YtpjidjanhonikaaG3
namespace Go.Proofs.Ytpjidjanhonikaa
set_option linter.unusedVariables false
set_option linter.unusedSimpArgs false
open Go.RowKit

theorem same_no (a a' : Option Addr) (n n' c c' : Nat) (w : World) (hne : n ≠ n') (hn : n ≤ 1000000) (hn' : n' ≤ 1000000) :
    Calls Try.prog 17 #[.slice a n c, .slice a' n' c'] w (RetB (.bool false) w) := by
  have hb : ((n : Int) != n') = true := by rw [bne_iff_ne]; omega
  have HN := Lib.hid hne
  clear hne
  go_enter Try.func17, Try.ntmps17
  go_wp2
  go_ret
  exact retB_bool rfl (Below.refl _ _)

set_option maxHeartbeats 800000 in
theorem same_yes (a a' : Option Addr) (n c c' : Nat) (l l' : List Int) (w : World) (hn : n ≤ 1000000) (h : SL encU 1 w w.heap.size a n l) (h' : SL encU 1 w w.heap.size a' n l') :
    Calls Try.prog 17 #[.slice a n c, .slice a' n c'] w (RetB (.bool (decide (l = l'))) w) := by
  have hl := Lib.hid h.len
  have hl' := Lib.hid h'.len
  go_enter Try.func17, Try.ntmps17
  go_wp2
  go_loopw [5] (fun i wr => ∃ k : Nat, k ≤ n ∧ i = .int .i64 k ∧ l.take k = l'.take k ∧ Below w.heap.size w wr) (fun i _ => n - (intOf i).toNat)
  case atStart => exact ⟨0, by omega, rfl, rfl, Below.refl _ _⟩
  case round =>
    obtain ⟨k, hk, rfl, htk, hb⟩ := hrel
    have HT := Lib.hid htk
    clear htk
    by_cases hlt : k < n
    · have hk1 : k < l.length := by have := hl.out; omega
      have hk2 : k < l'.length := by have := hl'.out; omega
      obtain ⟨b, off, rfl, hB, hc⟩ := (h.below hb).cells (h.ne hlt)
      obtain ⟨b', off', rfl, hB', hc'⟩ := (h'.below hb).cells (h'.ne hlt)
      have c0 := hc k hk1 0 (by omega)
      have d0 := hc' k hk2 0 (by omega)
      obtain ⟨x, hx⟩ : ∃ x, x = l[k] := ⟨_, rfl⟩
      obtain ⟨y, hy⟩ : ∃ y, y = l'[k] := ⟨_, rfl⟩
      rw [← hx] at c0
      rw [← hy] at d0
      simp only [encU, Nat.add_zero, Nat.mul_one, List.getElem?_cons_zero] at c0 d0
      have HX := Lib.hid hx
      have HY := Lib.hid hy
      clear hc hc' h h' hx hy
      by_cases e : x = y
      · have hb2 : (x != y) = false := by simp [e]
        have HE := Lib.hid e
        clear e
        go_wp2
        go_quiet (fail)
        go_wp2
        go_roundw
        case rel =>
          refine ⟨k + 1, by omega, by go_num, ?_, below_drewN hb _⟩
          rw [List.take_succ_eq_append_getElem hk1, List.take_succ_eq_append_getElem hk2, HT.out, ← HX.out, ← HY.out, HE.out]
        case measure => simp [intOf]; omega
      · have hb2 : (x != y) = true := by simp [e]
        have HE := Lib.hid e
        clear e
        go_wp2
        go_quiet (fail)
        go_wp2
        go_ret
        refine retB_bool ?_ (below_drewN hb _)
        symm; rw [decide_eq_false_iff_not]
        intro hh
        subst hh
        exact HE.out (HX.out.trans HY.out.symm)
    · go_wp2
      go_ret
      refine retB_bool ?_ hb
      symm; rw [decide_eq_true_eq]
      have := HT.out
      rwa [List.take_of_length_le (by have := hl.out; omega), List.take_of_length_le (by have := hl'.out; omega)] at this

theorem lay_t1 (w : World) : Calls Try.prog 12 #[.slice (some ⟨w.heap.size, 0, none⟩) 3 3, .int .u64 100] (w.alloc (.cells #[.int .i64 3, .int .i64 0, .int .i64 5, .int .i64 2, .int .i64 0, .int .i64 3] 34))
    (LayPost (w.alloc (.cells #[.int .i64 3, .int .i64 0, .int .i64 5, .int .i64 2, .int .i64 0, .int .i64 3] 34)) ([100, 104, 112], 112, 0)) := by
  have h := lay_any (some ⟨w.heap.size, 0, none⟩) 3 3 [(3, 0), (5, 2), (0, 3)] 100 _ (by decide) ((SL.lit w 34 [(3, 0), (5, 2), (0, 3)] encB_len (by decide) #[.int .i64 3, .int .i64 0, .int .i64 5, .int .i64 2, .int .i64 0, .int .i64 3] rfl 3 rfl).up (by simp))
    (by intro b hb; simp only [List.mem_cons, List.mem_nil_iff, or_false] at hb; rcases hb with rfl | rfl | rfl <;> (unfold bkB i64B; decide)) (by decide) (by decide)
  exact h
theorem lay_t2 (w : World) : Calls Try.prog 12 #[.slice (some ⟨w.heap.size, 0, none⟩) 1 1, .int .u64 0] (w.alloc (.cells #[.int .i64 (-1), .int .i64 0] 34))
    (LayPost (w.alloc (.cells #[.int .i64 (-1), .int .i64 0] 34)) ([], 0, 1)) := by
  have h := lay_any (some ⟨w.heap.size, 0, none⟩) 1 1 [(-1, 0)] 0 _ (by decide) ((SL.lit w 34 [(-1, 0)] encB_len (by decide) #[.int .i64 (-1), .int .i64 0] rfl 1 rfl).up (by simp))
    (by intro b hb; simp only [List.mem_cons, List.mem_nil_iff, or_false] at hb; rcases hb with rfl; unfold bkB i64B; decide) (by decide) (by decide)
  exact h
theorem up_t1 (w : World) : Calls Try.prog 10 #[.int .u64 4097, .int .i64 12] w (Ret (.tuple #[.int .u64 8192, .int .i64 0]) w) := up_any 4097 12 w (by decide) (by decide)
theorem up_t2 (w : World) : Calls Try.prog 10 #[.int .u64 0, .int .i64 13] w (Ret (.tuple #[.int .u64 0, .int .i64 1]) w) := up_any 0 13 w (by decide) (by decide)
theorem good_t1 (w : World) : Calls Try.prog 15 #[.agg #[.int .u64 4096, .int .u64 16781312, .int .u64 67108864, .int .i64 8192]] w (RetB (.bool true) w) := good_any 4096 16781312 67108864 8192 w (by decide) (by decide) (by decide) (by decide) (by decide) (by decide)
theorem good_t2 (w : World) : Calls Try.prog 15 #[.agg #[.int .u64 0, .int .u64 0, .int .u64 0, .int .i64 0]] w (RetB (.bool false) w) := good_any 0 0 0 0 w (by decide) (by decide) (by decide) (by decide) (by decide) (by decide)
theorem far_t (w : World) : Calls Try.prog 18 #[.int .u64 5, .int .u64 3] w (Ret (.int .i64 (-2)) w) := by
  have := far_any 5 3 w (by decide) (by decide) (by decide) (by decide)
  rwa [show wrap64 (3 - 5) = -2 from by unfold wrap64; decide] at this
theorem near_t1 (w : World) : Calls Try.prog 20 #[.int .u64 0, .int .u64 8188, .int .i64 8192] w (Ret (.bool true) w) := by
  have := near_any 0 8188 8192 w (by decide) (by decide) (by decide) (by decide) (by decide) (by decide)
  rwa [show nearB 0 8188 8192 = true from by unfold nearB wrap64; decide] at this
theorem near_t2 (w : World) : Calls Try.prog 20 #[.int .u64 0, .int .u64 8192, .int .i64 8192] w (Ret (.bool false) w) := by
  have := near_any 0 8192 8192 w (by decide) (by decide) (by decide) (by decide) (by decide) (by decide)
  rwa [show nearB 0 8192 8192 = false from by unfold nearB wrap64; decide] at this

theorem lit_three (w : World) (o : Obj) (T : TypeId) (x y z : Int) :
    SL encU 1 ((w.alloc o).alloc (.cells #[.int .u64 x, .int .u64 y, .int .u64 z] T)) ((w.alloc o).alloc (.cells #[.int .u64 x, .int .u64 y, .int .u64 z] T)).heap.size (some ⟨w.heap.size + 1, 0, none⟩) 3 [x, y, z] := by
  have e : (w.alloc o).heap.size = w.heap.size + 1 := by simp
  have h := SL.lit (w.alloc o) T [x, y, z] encU_len (by decide) #[.int .u64 x, .int .u64 y, .int .u64 z] rfl 3 rfl
  rw [e] at h
  exact h.up (by simp)

theorem kept_four (w w3 : World) (a b c d : Value) (T : TypeId) (o : Obj) (hb : Below ((w.alloc (.cells #[a, b, c, d] T)).alloc o).heap.size ((w.alloc (.cells #[a, b, c, d] T)).alloc o) w3) :
    w3.cell? ⟨w.heap.size, 0, none⟩ = some a ∧ w3.cell? ⟨w.heap.size, 1, none⟩ = some b ∧ w3.cell? ⟨w.heap.size, 2, none⟩ = some c ∧ w3.cell? ⟨w.heap.size, 3, none⟩ = some d := by
  have hk : ∀ k, w3.cell? ⟨w.heap.size, k, none⟩ = (w.alloc (.cells #[a, b, c, d] T)).cell? ⟨w.heap.size, k, none⟩ := fun k =>
    (hb.cell (p := ⟨w.heap.size, k, none⟩) (by simp; omega)).trans (World.cell?_of_block (w := w.alloc (.cells #[a, b, c, d] T)) (Below.heap_alloc _ _ _ (by simp)))
  have e := (MapKept.heap_alloc w (.cells #[a, b, c, d] T)).1
  refine ⟨(hk 0).trans ?_, (hk 1).trans ?_, (hk 2).trans ?_, (hk 3).trans ?_⟩ <;> (unfold World.cell?; rw [e]; rfl)

set_option maxRecDepth 100000 in
set_option maxHeartbeats 1600000 in
theorem laid_any (w : World) : Calls Try.prog 14 #[] w (RetB (.bool true) w) := by
  go_enter Try.func14, Try.ntmps14
  go_wp2_with fail
  refine (lay_t1 _).mono ?_
  rintro e w1 ⟨a, n, c, rfl, h1, -, hb1⟩
  have hbw1 : Below w.heap.size w w1 := after ((Below.refl _ w).alloc (Nat.le_refl _) _) hb1
  obtain rfl : n = 3 := h1.len
  clear hb1
  go_wp2_with fail
  refine (lay_t2 _).mono ?_
  rintro e w2 ⟨a2, n2, c2, rfl, -, -, hb2⟩
  have hb12 : Below w1.heap.size w1 w2 := after ((Below.refl _ w1).alloc (Nat.le_refl _) _) hb2
  have h2 := h1.next hb12
  have hbw2 := after hbw1 hb12
  clear hb2 hb12 h1 hbw1
  go_wp2_with fail
  refine (up_t1 _).mono ?_
  rintro e w' ⟨rfl, rfl⟩
  go_wp2_with fail
  refine (up_t2 _).mono ?_
  rintro e w' ⟨rfl, rfl⟩
  go_wp2_with fail
  have h3 := lit_three w2 (.cells #[.int .u64 4096, .int .u64 16781312, .int .u64 67108864, .int .i64 8192] 24) 22 100 104 112
  have h4 := h2.next (((Below.refl _ w2).alloc (Nat.le_refl _) (.cells #[.int .u64 4096, .int .u64 16781312, .int .u64 67108864, .int .i64 8192] 24)).alloc (by simp) (.cells #[.int .u64 100, .int .u64 104, .int .u64 112] 22))
  refine (same_yes _ _ 3 _ _ _ _ _ (by decide) h4 h3).mono ?_
  rintro e w3 ⟨rfl, hb3⟩
  have hbw3 := after ((hbw2.alloc hbw2.size (.cells #[.int .u64 4096, .int .u64 16781312, .int .u64 67108864, .int .i64 8192] 24)).alloc (by have := hbw2.size; simp; omega) (.cells #[.int .u64 100, .int .u64 104, .int .u64 112] 22)) hb3
  obtain ⟨c0, c1, c2', c3⟩ := kept_four w2 w3 (.int .u64 4096) (.int .u64 16781312) (.int .u64 67108864) (.int .i64 8192) 24 _ hb3
  clear hb3 h3 h4 h2 hbw2
  go_wp2_with fail
  refine (good_t1 _).mono ?_
  rintro e w4 ⟨rfl, hb4⟩
  have hbw4 := after hbw3 hb4
  clear c0 c1 c2' c3 hb4 hbw3
  go_wp2_with fail
  refine (good_t2 _).mono ?_
  rintro e w5 ⟨rfl, hb5⟩
  have hbw5 := after hbw4 hb5
  clear hb5 hbw4
  go_wp2_with fail
  refine (far_t _).mono ?_
  rintro e w' ⟨rfl, rfl⟩
  go_wp2_with fail
  refine (near_t1 _).mono ?_
  rintro e w' ⟨rfl, rfl⟩
  go_wp2_with fail
  refine (near_t2 _).mono ?_
  rintro e w' ⟨rfl, rfl⟩
  go_wp2_with fail
  go_ret
  exact retB_bool rfl hbw5
end Go.Proofs.Ytpjidjanhonikaa
