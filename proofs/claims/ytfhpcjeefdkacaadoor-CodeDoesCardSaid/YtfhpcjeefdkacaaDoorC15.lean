/- The laws CodeBack and CodeWord, walked. -/
import Derived.Test.YtfhpcjeefdkacaaDoorC14
namespace Go.Proofs.YtfhpcjeefdkacaaDoor
set_option linter.unusedVariables false
set_option linter.unusedSimpArgs false
open Go.RowKit

theorem RetD.toB {v : Value} {w w' : World} {e : Ending} (h : RetD v w e w') : RetB v w e w' := by
  obtain ⟨he, m, rfl⟩ := h
  exact ⟨he, below_refl_drewN w m⟩
theorem and_ten {X Y : Nat} {i j : In} {w : World} (h : Ten X i w) (g : Ten Y j w) :
    w.cell? ⟨X, 0, none⟩ = some (.int .i64 i.op) ∧ w.cell? ⟨X, 1, none⟩ = some (.int .i64 i.d) ∧ w.cell? ⟨X, 2, none⟩ = some (.int .i64 i.n) ∧ w.cell? ⟨X, 3, none⟩ = some (.int .i64 i.m) ∧ w.cell? ⟨X, 4, none⟩ = some (.int .i64 i.a) ∧ w.cell? ⟨X, 5, none⟩ = some (.int .i64 i.imm) ∧ w.cell? ⟨X, 6, none⟩ = some (.int .u64 i.mask) ∧ w.cell? ⟨X, 7, none⟩ = some (.int .i64 i.shift) ∧ w.cell? ⟨X, 8, none⟩ = some (.int .i64 i.amount) ∧ w.cell? ⟨X, 9, none⟩ = some (.int .i64 i.cond) ∧ w.cell? ⟨Y, 0, none⟩ = some (.int .i64 j.op) ∧ w.cell? ⟨Y, 1, none⟩ = some (.int .i64 j.d) ∧ w.cell? ⟨Y, 2, none⟩ = some (.int .i64 j.n) ∧ w.cell? ⟨Y, 3, none⟩ = some (.int .i64 j.m) ∧ w.cell? ⟨Y, 4, none⟩ = some (.int .i64 j.a) ∧ w.cell? ⟨Y, 5, none⟩ = some (.int .i64 j.imm) ∧ w.cell? ⟨Y, 6, none⟩ = some (.int .u64 j.mask) ∧ w.cell? ⟨Y, 7, none⟩ = some (.int .i64 j.shift) ∧ w.cell? ⟨Y, 8, none⟩ = some (.int .i64 j.amount) ∧ w.cell? ⟨Y, 9, none⟩ = some (.int .i64 j.cond) := by
  obtain ⟨a0, a1, a2, a3, a4, a5, a6, a7, a8, a9⟩ := h
  obtain ⟨b0, b1, b2, b3, b4, b5, b6, b7, b8, b9⟩ := g
  exact ⟨a0, a1, a2, a3, a4, a5, a6, a7, a8, a9, b0, b1, b2, b3, b4, b5, b6, b7, b8, b9⟩

set_option maxRecDepth 100000 in
set_option maxHeartbeats 8000000 in
theorem CodeBack_walk (i : In) (hi : InB i) (w : World) (hw : Tab6 w) : Calls Tryd.prog 4 #[inV i] w (RetB (.bool true) w) := by
  have HT := Lib.hid hw
  have HC : Hid (∀ w, Tab6 w → Calls Tryd.prog 14 #[] w (RetB (.bool true) w)) := Lib.hid fun w h => coded_any w h
  have HIs : Hid (∀ w, Tab6 w → Calls Tryd.prog 17 #[inV i] w (RetB (.bool (isI i)) w)) := Lib.hid fun w h => InstIs_any i w h.1 hi
  have HEn : Hid (∀ w, Tab6 w → Calls Tryd.prog 8 #[inV i] w (RetB (two .u32 .i64 (encP i)) w)) := Lib.hid fun w h => CEncode_any i w h hi
  have hten := Ten.made w i 24
  obtain ⟨X, hX⟩ : ∃ X, X = w.heap.size := ⟨_, rfl⟩
  obtain ⟨W0, hW0⟩ : ∃ W0, W0 = w.alloc (.cells (inC i) 24) := ⟨_, rfl⟩
  have hXl : X < W0.heap.size := by rw [hX, hW0]; simp
  rw [← hW0, ← hX] at hten
  have HW : Hid (Below w.heap.size w W0) := Lib.hid (by rw [hW0]; exact (Below.refl _ w).alloc (Nat.le_refl _) _)
  have HA := Lib.hid hten
  have HEQ := Lib.hid hW0
  have HXQ := Lib.hid hX
  have HB := Lib.hid (Below.refl W0.heap.size W0)
  have HTT : Hid (∀ wx, Below W0.heap.size W0 wx → Tab6 wx) := Lib.hid fun wx hb => HT.out.below (HW.out.trans (hb.mono HW.out.size))
  clear hX hW0 hten hw
  cases hI : isI i
  · rw [hI] at HIs
    have hE : encP i = (0, 1) := by unfold encP; rw [hI]; rfl
    rw [hE] at HEn
    clear hE hI hi
    obtain ⟨o, d, n, m, a, x, k, hh, t, c⟩ := i
    go_enter Tryd.func4, Tryd.ntmps4
    go_wp2_with fail
    rw [← HEQ.out, ← HXQ.out]
    refine (HEn.out _ (HTT.out _ HB.out)).mono ?_
    rintro e w1 ⟨rfl, hb⟩
    replace HB := Lib.hid (after HB.out hb)
    clear hb
    obtain ⟨a0, a1, a2, a3, a4, a5, a6, a7, a8, a9⟩ := HA.out.below HB.out hXl
    go_wp2_with (first
      | (go_at_call 17; ((with_reducible refine (HIs.out _ (HTT.out _ HB.out)).mono ?_); rintro e w' ⟨rfl, hb⟩; replace HB := Lib.hid (after HB.out hb); clear hb))
      | (go_at_call 14; ((with_reducible refine (HC.out _ (HTT.out _ HB.out)).mono ?_); rintro e w' ⟨rfl, hb⟩; replace HB := Lib.hid (after HB.out hb); clear hb)))
    go_ret
    exact retB_bool rfl (HW.out.trans (HB.out.mono HW.out.size))
  · rw [hI] at HIs
    have hE : encP i = (((encW i : Nat) : Int), 0) := by unfold encP; rw [hI]; rfl
    rw [hE] at HEn
    obtain ⟨-, -, -, -, hlt, -, -⟩ := encW_spec i hI hi.mask
    obtain ⟨hop, -, hd⟩ := dI_enc hI hi.mask
    have ho := code_op hI
    have HDe : Hid (∀ w, Tab6 w → Calls Tryd.prog 10 #[.int .u32 (encW i : Nat)] w (RetB (.tuple #[inV i, .int .i64 0]) w)) := Lib.hid fun w h => by
      have := CDecode_any (encW i) hlt w h
      rwa [hd] at this
    have HO : Hid (∀ w, Tab6 w → Calls Tryd.prog 15 #[.int .u32 (encW i : Nat)] w (RetB (.int .i64 i.op) w)) := Lib.hid fun w h => by
      have := (Opcode_any (encW i) hlt w h).mono fun _ _ h => h.toB
      rw [hop, show ((i.op.toNat : Nat) : Int) = i.op from by omega] at this
      exact this
    generalize encW i = ew at *
    clear hE hI hi hop hd ho
    obtain ⟨o, d, n, m, a, x, k, hh, t, c⟩ := i
    simp only [] at HO
    go_enter Tryd.func4, Tryd.ntmps4
    go_wp2_with fail
    rw [← HEQ.out, ← HXQ.out]
    refine (HEn.out _ (HTT.out _ HB.out)).mono ?_
    rintro e w1 ⟨rfl, hb⟩
    replace HB := Lib.hid (after HB.out hb)
    clear hb
    obtain ⟨a0, a1, a2, a3, a4, a5, a6, a7, a8, a9⟩ := HA.out.below HB.out hXl
    go_wp2_with (first
      | (go_at_call 17; ((with_reducible refine (HIs.out _ (HTT.out _ HB.out)).mono ?_); rintro e w' ⟨rfl, hb⟩; replace HB := Lib.hid (after HB.out hb); clear hb; clear a0 a1 a2 a3 a4 a5 a6 a7 a8 a9; obtain ⟨a0, a1, a2, a3, a4, a5, a6, a7, a8, a9⟩ := HA.out.below HB.out hXl))
      | (go_at_call 10; ((with_reducible refine (HDe.out _ (HTT.out _ HB.out)).mono ?_); rintro e w4 ⟨rfl, hb⟩; replace HB := Lib.hid (after HB.out hb); clear hb)))
    have hY := Ten.made w4 ⟨o, d, n, m, a, x, k, hh, t, c⟩ 24
    obtain ⟨W4, hW4⟩ : ∃ W4, W4 = w4.alloc (.cells (inC ⟨o, d, n, m, a, x, k, hh, t, c⟩) 24) := ⟨_, rfl⟩
    obtain ⟨Y, hYe⟩ : ∃ Y, Y = w4.heap.size := ⟨_, rfl⟩
    have hYl : Y < W4.heap.size := by rw [hYe, hW4]; simp
    have hx4 : Below W0.heap.size W0 W4.drew := by rw [hW4]; exact (bel_alloc HB.out _).drew
    have hy4 : Below W4.heap.size W4 W4.drew := (Below.refl _ _).drew
    rw [← hW4, ← hYe] at hY
    have HY := Lib.hid hY
    rw [← hW4, ← hYe]
    clear hY hW4 hYe
    clear a0 a1 a2 a3 a4 a5 a6 a7 a8 a9
    obtain ⟨a0, a1, a2, a3, a4, a5, a6, a7, a8, a9⟩ := HA.out.below (hx4) hXl
    obtain ⟨b0, b1, b2, b3, b4, b5, b6, b7, b8, b9⟩ := HY.out.below (hy4) hYl
    go_region_held3 (fun w' => w'.cell? ⟨X, 0, none⟩ = some (.int .i64 o) ∧ w'.cell? ⟨X, 1, none⟩ = some (.int .i64 d) ∧ w'.cell? ⟨X, 2, none⟩ = some (.int .i64 n) ∧ w'.cell? ⟨X, 3, none⟩ = some (.int .i64 m) ∧ w'.cell? ⟨X, 4, none⟩ = some (.int .i64 a) ∧ w'.cell? ⟨X, 5, none⟩ = some (.int .i64 x) ∧ w'.cell? ⟨X, 6, none⟩ = some (.int .u64 k) ∧ w'.cell? ⟨X, 7, none⟩ = some (.int .i64 hh) ∧ w'.cell? ⟨X, 8, none⟩ = some (.int .i64 t) ∧ w'.cell? ⟨X, 9, none⟩ = some (.int .i64 c) ∧ w'.cell? ⟨Y, 0, none⟩ = some (.int .i64 o) ∧ w'.cell? ⟨Y, 1, none⟩ = some (.int .i64 d) ∧ w'.cell? ⟨Y, 2, none⟩ = some (.int .i64 n) ∧ w'.cell? ⟨Y, 3, none⟩ = some (.int .i64 m) ∧ w'.cell? ⟨Y, 4, none⟩ = some (.int .i64 a) ∧ w'.cell? ⟨Y, 5, none⟩ = some (.int .i64 x) ∧ w'.cell? ⟨Y, 6, none⟩ = some (.int .u64 k) ∧ w'.cell? ⟨Y, 7, none⟩ = some (.int .i64 hh) ∧ w'.cell? ⟨Y, 8, none⟩ = some (.int .i64 t) ∧ w'.cell? ⟨Y, 9, none⟩ = some (.int .i64 c))
      (first
        | go_keep
        | exact and_ten (HA.out.below (C := W0.heap.size) (by assumption) hXl) (HY.out.below (C := W4.heap.size) (by assumption) hYl))
      ((first
        | (go_at_call 14; refine (HC.out _ (HTT.out _ hx4)).mono ?_; rintro e w' ⟨rfl, hb⟩; have hx5 := after hx4 hb; have hy5 := after hy4 hb; clear hb)
        | (go_at_call 15; refine (HO.out _ (HTT.out _ hx5)).mono ?_; rintro e w' ⟨rfl, hb⟩; have hx6 := after hx5 hb; have hy6 := after hy5 hb; clear hb)))
    all_goals
      go_wp2
      go_ret
      exact retB_bool (by simp) (HW.out.trans (hx6.mono HW.out.size))

set_option maxRecDepth 100000 in
set_option maxHeartbeats 8000000 in
theorem CodeWord_nat (x0 : Nat) (hx : x0 < 4294967296) (w : World) (hw : Tab6 w) : Calls Tryd.prog 5 #[.int .u32 x0] w (RetB (.bool true) w) := by
  have HT := Lib.hid hw
  have HC : Hid (∀ w, Tab6 w → Calls Tryd.prog 14 #[] w (RetB (.bool true) w)) := Lib.hid fun w h => coded_any w h
  have HB := Lib.hid (Below.refl w.heap.size w)
  cases hI : isI (readW x0)
  · have hd : dI x0 = (inZ, 11) := by unfold dI; rw [hI]; rfl
    have HDe : Hid (∀ w, Tab6 w → Calls Tryd.prog 10 #[.int .u32 x0] w (RetB (.tuple #[.agg #[.int .i64 0, .int .i64 0, .int .i64 0, .int .i64 0, .int .i64 0, .int .i64 0, .int .u64 0, .int .i64 0, .int .i64 0, .int .i64 0], .int .i64 11]) w)) := Lib.hid fun w h => by
      have := CDecode_any x0 hx w h
      rwa [hd] at this
    clear hw hI hd
    go_enter Tryd.func5, Tryd.ntmps5
    go_wp2_with (first
      | (go_at_call 10; ((with_reducible refine (HDe.out _ (HT.out.below HB.out)).mono ?_); rintro e w3 ⟨rfl, hb⟩; replace HB := Lib.hid (after HB.out hb); clear hb))
      | (go_at_call 14; ((with_reducible refine (HC.out _ (HT.out.below (bel_alloc HB.out _))).mono ?_); rintro e w5 ⟨rfl, hb⟩; replace HB := Lib.hid (after (bel_alloc HB.out _) hb); have hX := (hb.block w3.heap.size (by simp)).trans (MapKept.heap_alloc w3 _).1; have x0 : w5.cell? ⟨w3.heap.size, 0, none⟩ = some (.int .i64 0) := cel hX; have x1 : w5.cell? ⟨w3.heap.size, 1, none⟩ = some (.int .i64 0) := cel hX; have x2 : w5.cell? ⟨w3.heap.size, 2, none⟩ = some (.int .i64 0) := cel hX; have x3 : w5.cell? ⟨w3.heap.size, 3, none⟩ = some (.int .i64 0) := cel hX; have x4 : w5.cell? ⟨w3.heap.size, 4, none⟩ = some (.int .i64 0) := cel hX; have x5 : w5.cell? ⟨w3.heap.size, 5, none⟩ = some (.int .i64 0) := cel hX; have x6 : w5.cell? ⟨w3.heap.size, 6, none⟩ = some (.int .u64 0) := cel hX; have x7 : w5.cell? ⟨w3.heap.size, 7, none⟩ = some (.int .i64 0) := cel hX; have x8 : w5.cell? ⟨w3.heap.size, 8, none⟩ = some (.int .i64 0) := cel hX; have x9 : w5.cell? ⟨w3.heap.size, 9, none⟩ = some (.int .i64 0) := cel hX)))
    go_ret
    exact retB_bool rfl HB.out
  · have hd : dI x0 = (readW x0, 0) := by unfold dI; rw [hI]; rfl
    have hib := readW_inB x0 hx
    have hen : encP (readW x0) = (((x0 : Nat) : Int), 0) := by unfold encP; rw [hI, dI_ok hI hx]; rfl
    have hop := readW_op x0
    have HDe : Hid (∀ w, Tab6 w → Calls Tryd.prog 10 #[.int .u32 x0] w (RetB (.tuple #[inV (readW x0), .int .i64 0]) w)) := Lib.hid fun w h => by
      have := CDecode_any x0 hx w h
      rwa [hd] at this
    have HEn : Hid (∀ w, Tab6 w → Calls Tryd.prog 8 #[inV (readW x0)] w (RetB (.tuple #[.int .u32 x0, .int .i64 0]) w)) := Lib.hid fun w h => by
      have := CEncode_any (readW x0) w h hib
      rwa [hen] at this
    have HIs : Hid (∀ w, Tab6 w → Calls Tryd.prog 17 #[inV (readW x0)] w (RetB (.bool true) w)) := Lib.hid fun w h => by
      have := InstIs_any (readW x0) w h.1 hib
      rwa [hI] at this
    have HO : Hid (∀ w, Tab6 w → Calls Tryd.prog 15 #[.int .u32 x0] w (RetB (.int .i64 (readW x0).op) w)) := Lib.hid fun w h => by
      have := (Opcode_any x0 hx w h).mono fun _ _ h => h.toB
      rwa [← hop] at this
    generalize readW x0 = i at *
    clear hw hI hd hib hen hop
    obtain ⟨o, d, n, m, a, x, k, hh, t, c⟩ := i
    simp only [] at HO
    go_enter Tryd.func5, Tryd.ntmps5
    go_wp2_with (first
      | (go_at_call 10; ((with_reducible refine (HDe.out _ (HT.out.below HB.out)).mono ?_); rintro e w4 ⟨rfl, hb⟩; replace HB := Lib.hid (after HB.out hb); clear hb))
      | (go_at_call 8; ((with_reducible refine (HEn.out _ (HT.out.below (bel_alloc HB.out _))).mono ?_); rintro e w5 ⟨rfl, hb⟩; have HY1 := Lib.hid hb; replace HB := Lib.hid (after (bel_alloc HB.out _) hb); clear hb)))
    have hY := (Ten.made w4 ⟨o, d, n, m, a, x, k, hh, t, c⟩ 24).below HY1.out (by simp)
    obtain ⟨Y, hYe⟩ : ∃ Y, Y = w4.heap.size := ⟨_, rfl⟩
    have hYl : Y < w5.heap.size := by have := HY1.out.size; rw [World.size_alloc] at this; omega
    rw [← hYe] at hY ⊢
    have HY := Lib.hid hY
    have hx4 : Below w.heap.size w w5.drew := HB.out.drew
    have hy4 : Below w5.heap.size w5 w5.drew := (Below.refl _ _).drew
    clear hY hYe HY1
    obtain ⟨b0, b1, b2, b3, b4, b5, b6, b7, b8, b9⟩ := HY.out.below (hy4) hYl
    go_region_held3 (fun w' => w'.cell? ⟨Y, 0, none⟩ = some (.int .i64 o) ∧ w'.cell? ⟨Y, 1, none⟩ = some (.int .i64 d) ∧ w'.cell? ⟨Y, 2, none⟩ = some (.int .i64 n) ∧ w'.cell? ⟨Y, 3, none⟩ = some (.int .i64 m) ∧ w'.cell? ⟨Y, 4, none⟩ = some (.int .i64 a) ∧ w'.cell? ⟨Y, 5, none⟩ = some (.int .i64 x) ∧ w'.cell? ⟨Y, 6, none⟩ = some (.int .u64 k) ∧ w'.cell? ⟨Y, 7, none⟩ = some (.int .i64 hh) ∧ w'.cell? ⟨Y, 8, none⟩ = some (.int .i64 t) ∧ w'.cell? ⟨Y, 9, none⟩ = some (.int .i64 c))
      (first
        | go_keep
        | exact HY.out.below (C := w5.heap.size) (by assumption) hYl)
      ((first
        | (go_at_call 14; refine (HC.out _ (HT.out.below hx4)).mono ?_; rintro e w' ⟨rfl, hb⟩; have hx5 := after hx4 hb; have hy5 := after hy4 hb; clear hb)
        | (go_at_call 17; refine (HIs.out _ (HT.out.below hx5)).mono ?_; rintro e w' ⟨rfl, hb⟩; have hx6 := after hx5 hb; have hy6 := after hy5 hb; clear hb)
        | (go_at_call 15; refine (HO.out _ (HT.out.below hx6)).mono ?_; rintro e w' ⟨rfl, hb⟩; have hx7 := after hx6 hb; have hy7 := after hy6 hb; clear hb)))
    all_goals
      go_wp2
      go_ret
      exact retB_bool (by simp) hx7
theorem CodeWord_walk (x : Int) (hx : 0 ≤ x ∧ x < 4294967296) (w : World) (hw : Tab6 w) : Calls Tryd.prog 5 #[.int .u32 x] w (RetB (.bool true) w) := by
  obtain ⟨k, rfl⟩ := Int.eq_ofNat_of_zero_le hx.1
  exact CodeWord_nat k (by omega) w hw
end Go.Proofs.YtfhpcjeefdkacaaDoor
