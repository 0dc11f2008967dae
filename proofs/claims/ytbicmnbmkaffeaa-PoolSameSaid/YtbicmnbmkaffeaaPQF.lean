/- The law PoolSame. -/
import Derived.Test.YtbicmnbmkaffeaaPQE
namespace Go.Proofs.Ytbicmnbmkaffeaa
set_option linter.unusedVariables false
set_option linter.unusedSimpArgs false
open Go.ChangeShapes Go.WideShapes Go.Deep Go.RowKit

set_option maxRecDepth 100000 in
set_option maxHeartbeats 8000000 in
theorem same_bad (m n : Nd) (hm : GoodN m) (hn : GoodN n) (w : World) (z1 : ¬ 100 < m.sym.size) (z2 : ¬ 100 < n.sym.size) (z3 : m.sym.size ≤ 9223372036854775807) (z4 : n.sym.size ≤ 9223372036854775807) (x y : Lt) (e1 e2 : Int) (l1 l2 : List Lt) (h1 : ofL m = (x, e1)) (h2 : ofL n = (y, e2)) (he : e1 ≠ 0 ∨ e2 ≠ 0)
    (P1 : ∀ w base p, PS w base p [] → Calls Try.prog 13 #[.pointer (some ⟨p, 0, none⟩), ndV m] w (PutP base p l1 (0, e1) w)) (P2 : ∀ w base p, PS w base p l1 → Calls Try.prog 13 #[.pointer (some ⟨p, 0, none⟩), ndV n] w (PutP base p l2 (0, e2) w)) :
    Calls Try.prog 3 #[ndV m, ndV n] w (RetB (.bool true) w) := by
  have HK : Hid (∀ w, Calls Try.prog 15 #[] w (RetB (.bool true) w)) := Lib.hid fun w => pooled_any w
  have HO1 : Hid (∀ w, Calls Try.prog 14 #[ndV m] w (RetB (outL (ofL m)) w)) := Lib.hid fun w => Of_any m w hm
  have HO2 : Hid (∀ w, Calls Try.prog 14 #[ndV n] w (RetB (outL (ofL n)) w)) := Lib.hid fun w => Of_any n w hn
  obtain ⟨X1, hX1⟩ : ∃ X, X = w.heap.size := ⟨_, rfl⟩
  obtain ⟨W1, hW1⟩ : ∃ W, W = w.alloc (.cells #[.int .i64 m.kind, .string m.sym, .int .i64 m.add, .bool m.minus, .int .u64 m.v] 24) := ⟨_, rfl⟩
  obtain ⟨X2, hX2⟩ : ∃ X, X = w.heap.size + 1 := ⟨_, rfl⟩
  have s1 : W1.heap.size = w.heap.size + 1 := by rw [hW1]; simp
  have hat1 : NdAt X1 m W1 := by rw [hX1, hW1]; exact NdAt.made w m 24
  obtain ⟨W0, hW0⟩ : ∃ W0, W0 = W1.alloc (.cells #[.int .i64 n.kind, .string n.sym, .int .i64 n.add, .bool n.minus, .int .u64 n.v] 24) := ⟨_, rfl⟩
  have hat2 : NdAt X2 n W0 := by rw [hX2, hW0, ← s1]; exact NdAt.made W1 n 24
  have s0 : W0.heap.size = w.heap.size + 2 := by rw [hW0]; simp [s1]
  have hl1 : X1 < W0.heap.size := by omega
  have hl2 : X2 < W0.heap.size := by omega
  have hb01 : Below W1.heap.size W1 W0 := by rw [hW0]; exact (Below.refl _ _).alloc (Nat.le_refl _) _
  have HA1 := Lib.hid (hat1.below hb01 (by omega))
  have HA2 := Lib.hid hat2
  have HW : Hid (Below w.heap.size w W0) := Lib.hid (by rw [hW0, hW1]; exact ((Below.refl _ w).alloc (Nat.le_refl _) _).alloc (by simp) _)
  have HEQ : Hid (W0 = (w.alloc (.cells #[.int .i64 m.kind, .string m.sym, .int .i64 m.add, .bool m.minus, .int .u64 m.v] 24)).alloc (.cells #[.int .i64 n.kind, .string n.sym, .int .i64 n.add, .bool n.minus, .int .u64 n.v] 24)) := Lib.hid (by rw [hW0, hW1])
  have HX1 := Lib.hid hX1
  have HX2 := Lib.hid hX2
  have HB := Lib.hid (Below.refl W0.heap.size W0)
  have HN := Lib.hid (New_any W0)
  clear hX1 hX2 hW1 hW0 hat1 hat2 s1 s0 hb01
  rw [h1] at HO1
  rw [h2] at HO2
  have HP1 := Lib.hid P1
  have HP2 := Lib.hid P2
  clear h1 h2 P1 P2 hm hn
  obtain ⟨xs, xd, xv⟩ := x
  obtain ⟨ys, yd, yv⟩ := y
  obtain ⟨km, sm, dm, mm, vm⟩ := m
  obtain ⟨kn, sn, dn, mn, vn⟩ := n
  simp only [] at z1 z2 z3 z4
  go_enter Try.func3, Try.ntmps3
  go_wp2_with fail
  rw [← HEQ.out]
  refine HN.out.mono ?_
  rintro e w1 ⟨rfl, hp1, hb⟩
  obtain ⟨p, hpe⟩ : ∃ p, p = W0.heap.size := ⟨_, rfl⟩
  rw [← hpe] at hp1
  rw [← HX2.out, ← HX1.out, ← hpe]
  have HPE := Lib.hid hpe
  have HP := Lib.hid hp1
  obtain ⟨a0, a1, a2, a3, a4⟩ := HA1.out.below HB.out hl1
  obtain ⟨b0, b1, b2, b3, b4⟩ := HA2.out.below HB.out hl2
  replace HB := Lib.hid (HB.out.trans hb)
  clear hpe hp1 hb
  clear a0 a1 a2 a3 a4 b0 b1 b2 b3 b4
  obtain ⟨a0, a1, a2, a3, a4⟩ := HA1.out.below HB.out hl1
  obtain ⟨b0, b1, b2, b3, b4⟩ := HA2.out.below HB.out hl2
  go_wp2_with fail
  refine (HP1.out _ _ _ HP.out).mono ?_
  rintro e w2 ⟨rfl, hp, hb⟩
  replace HP := Lib.hid hp
  replace HB := Lib.hid (HB.out.trans (hb.mono (by rw [HPE.out]; exact Nat.le_refl _)))
  clear hp hb
  clear a0 a1 a2 a3 a4 b0 b1 b2 b3 b4
  obtain ⟨a0, a1, a2, a3, a4⟩ := HA1.out.below HB.out hl1
  obtain ⟨b0, b1, b2, b3, b4⟩ := HA2.out.below HB.out hl2
  go_wp2_with fail
  refine (HP2.out _ _ _ HP.out).mono ?_
  rintro e w3 ⟨rfl, hp, hb⟩
  replace HP := Lib.hid hp
  replace HB := Lib.hid (HB.out.trans (hb.mono (by rw [HPE.out]; exact Nat.le_refl _)))
  clear hp hb
  clear a0 a1 a2 a3 a4 b0 b1 b2 b3 b4
  obtain ⟨a0, a1, a2, a3, a4⟩ := HA1.out.below HB.out hl1
  obtain ⟨b0, b1, b2, b3, b4⟩ := HA2.out.below HB.out hl2
  go_wp2_with fail
  refine (HO1.out _).mono ?_
  rintro e w4 ⟨rfl, hb⟩
  replace HP := Lib.hid (HP.out.below hb)
  replace HB := Lib.hid (HB.out.trans (hb.mono HB.out.size))
  clear hb
  clear a0 a1 a2 a3 a4 b0 b1 b2 b3 b4
  obtain ⟨a0, a1, a2, a3, a4⟩ := HA1.out.below HB.out hl1
  obtain ⟨b0, b1, b2, b3, b4⟩ := HA2.out.below HB.out hl2
  have g2 : X2 < w4.heap.size := Nat.lt_of_lt_of_le hl2 HB.out.size
  have g1 : X1 < w4.heap.size := Nat.lt_of_lt_of_le hl1 HB.out.size
  go_wp2_with fail
  have hy := LtAt.made w4 ⟨xs, xd, xv⟩ 31
  obtain ⟨Y1, hYe⟩ : ∃ Y, Y = w4.heap.size := ⟨_, rfl⟩
  obtain ⟨V1, hV⟩ : ∃ V, V = w4.alloc (.cells #[.string (Lt.sym ⟨xs, xd, xv⟩), .int .i64 (Lt.add ⟨xs, xd, xv⟩), .int .u64 (Lt.v ⟨xs, xd, xv⟩)] 31) := ⟨_, rfl⟩
  have hYl1 : Y1 < V1.heap.size := by rw [hYe, hV]; simp
  rw [← hV, ← hYe] at hy
  have HY1 := Lib.hid hy
  have hb : Below w4.heap.size w4 V1 := by rw [hV]; exact (Below.refl _ _).alloc (Nat.le_refl _) _
  have HC1 := Lib.hid (Below.refl V1.heap.size V1)
  have HYB1 : Hid (V1.heap[Y1]? = some (.cells #[.string (Lt.sym ⟨xs, xd, xv⟩), .int .i64 (Lt.add ⟨xs, xd, xv⟩), .int .u64 (Lt.v ⟨xs, xd, xv⟩)] 31 (0, 0))) := Lib.hid (by rw [hYe, hV]; exact (MapKept.heap_alloc w4 _).1)
  obtain ⟨y10, y11, y12⟩ := HY1.out.below HC1.out hYl1
  replace HP := Lib.hid (HP.out.below hb)
  replace HB := Lib.hid (HB.out.trans (hb.mono HB.out.size))
  clear hb hy
  clear a0 a1 a2 a3 a4 b0 b1 b2 b3 b4
  obtain ⟨a0, a1, a2, a3, a4⟩ := HA1.out.below HB.out hl1
  obtain ⟨b0, b1, b2, b3, b4⟩ := HA2.out.below HB.out hl2
  rw [← hV, ← hYe]
  clear hV hYe g1 g2
  refine (HO2.out _).mono ?_
  rintro e w5 ⟨rfl, hb⟩
  replace HP := Lib.hid (HP.out.below hb)
  replace HB := Lib.hid (HB.out.trans (hb.mono HB.out.size))
  replace HC1 := Lib.hid (HC1.out.trans (hb.mono HC1.out.size))
  clear hb
  clear a0 a1 a2 a3 a4 b0 b1 b2 b3 b4
  obtain ⟨a0, a1, a2, a3, a4⟩ := HA1.out.below HB.out hl1
  obtain ⟨b0, b1, b2, b3, b4⟩ := HA2.out.below HB.out hl2
  clear y10 y11 y12
  obtain ⟨y10, y11, y12⟩ := HY1.out.below HC1.out hYl1
  clear a0 a1 a2 a3 a4 b0 b1 b2 b3 b4 y10 y11 y12
  rcases he with he | he
  · have q1 : (e1 != 0) = true := by rw [bne_iff_ne]; exact he
    clear he
    go_wp2_with (go_at_call 15; ((with_reducible refine (HK.out _).mono ?_); rintro e w6 ⟨rfl, hb⟩; replace HB := Lib.hid ((HB.out.alloc HB.out.size _).trans (hb.mono (by have := HB.out.size; simp; omega))); clear hb))
    all_goals
      go_ret
      exact retB_bool (by simp) (HW.out.trans (HB.out.mono HW.out.size))
  · have q1 : (e2 != 0) = true := by rw [bne_iff_ne]; exact he
    clear he
    go_wp2_with (go_at_call 15; ((with_reducible refine (HK.out _).mono ?_); rintro e w6 ⟨rfl, hb⟩; replace HB := Lib.hid ((HB.out.alloc HB.out.size _).trans (hb.mono (by have := HB.out.size; simp; omega))); clear hb))
    all_goals
      go_ret
      exact retB_bool (by simp) (HW.out.trans (HB.out.mono HW.out.size))
end Go.Proofs.Ytbicmnbmkaffeaa
