/- The law InstRenamed, walked for each class of shapes. -/
import Derived.Test.YtjnmkelppjcofaaDoorJ12
namespace Go.Proofs.YtjnmkelppjcofaaDoor
set_option linter.unusedVariables false
set_option linter.unusedSimpArgs false
open Go.RowKit

set_option maxRecDepth 100000 in
set_option maxHeartbeats 16000000 in
theorem ren_f (o d n m ra x k h t c d' n' m' ra' s : Int) (a b : Nat) (ha : a < 31) (hb : b < 31) (w : World) (hw : Tab5 w) (f0 : 9 ≤ s) (f1 : s ≤ 10)
    (ed : d' = swp a b d) (en : n' = n) (em : m' = m) (er : ra' = ra)
    (p37 : (o == 37) = false) (p30 : (o == 30) = false) (p35 : (o == 35) = false) (d1 d2 : Int) (ok : Bool) (l1 l2 : List Int) (hl32 : l1.length ≤ 32)
    (hmem : ∀ v ∈ l1, memB l2 (swp a b v) = true) (hlen : l2.length = l1.length) (hdd : ok = true → swp a b d1 = d2)
    (hIs : ∀ w, Tab5 w → Calls Tryd.prog 12 #[inV ⟨o, d, n, m, ra, x, k, h, t, c⟩] w (RetB (.bool true) w)) (hJs : ∀ w, Tab5 w → Calls Tryd.prog 12 #[inV ⟨o, d', n', m', ra', x, k, h, t, c⟩] w (RetB (.bool true) w))
    (hSh : ∀ w, Tab5 w → Calls Tryd.prog 19 #[.int .i64 o] w (Ret (.int .i64 s) w))
    (hR1 : ∀ w, Tab5 w → Calls Tryd.prog 15 #[inV ⟨o, d, n, m, ra, x, k, h, t, c⟩] w (RetL l1 w)) (hR2 : ∀ w, Tab5 w → Calls Tryd.prog 15 #[inV ⟨o, d', n', m', ra', x, k, h, t, c⟩] w (RetL l2 w))
    (hW1 : ∀ w, Tab5 w → Calls Tryd.prog 9 #[inV ⟨o, d, n, m, ra, x, k, h, t, c⟩] w (RetB (.tuple #[.int .i64 d1, .bool ok]) w)) (hW2 : ∀ w, Tab5 w → Calls Tryd.prog 9 #[inV ⟨o, d', n', m', ra', x, k, h, t, c⟩] w (RetB (.tuple #[.int .i64 d2, .bool ok]) w)) :
    Calls Tryd.prog 7 #[inV ⟨o, d, n, m, ra, x, k, h, t, c⟩, .int .i64 a, .int .i64 b] w (RetB (.bool true) w) := by
  have HT := Lib.hid hw
  have HC : Hid (∀ w, Tab5 w → Calls Tryd.prog 11 #[] w (RetB (.bool true) w)) := Lib.hid fun w h => shaped_any w h
  have HIs := Lib.hid hIs
  have HJs := Lib.hid hJs
  have HSh := Lib.hid hSh
  have HR1 := Lib.hid hR1
  have HR2 := Lib.hid hR2
  have HW1 := Lib.hid hW1
  have HW2 := Lib.hid hW2
  have HMEM := Lib.hid hmem
  have HLEN := Lib.hid hlen
  have HDD := Lib.hid hdd
  obtain ⟨X, hX⟩ : ∃ X, X = w.heap.size := ⟨_, rfl⟩
  obtain ⟨Y, hY⟩ : ∃ Y, Y = X + 1 := ⟨_, rfl⟩
  obtain ⟨Z, hZ⟩ : ∃ Z, Z = Y + 1 := ⟨_, rfl⟩
  obtain ⟨W0, hW0⟩ : ∃ W0, W0 = ((w.alloc (.cells (inC ⟨o, d, n, m, ra, x, k, h, t, c⟩) 24)).alloc (.cells #[.int .i64 a] 3)).alloc (.cells #[.int .i64 b] 3) := ⟨_, rfl⟩
  have HKB : Hid (KB X Y Z ⟨o, d, n, m, ra, x, k, h, t, c⟩ a b w W0) := Lib.hid (by rw [hZ, hY, hX, hW0]; exact KB.made w _ _ _)
  have HEQ := Lib.hid hW0
  have HXQ := Lib.hid hX
  have HYQ := Lib.hid hY
  have HZQ := Lib.hid hZ
  have q0 : (s == 16) = false := by rw [beq_eq_false_iff_ne]; omega
  have q1 : (s == 13) = false := by rw [beq_eq_false_iff_ne]; omega
  have q2 : (s == 6) = false := by rw [beq_eq_false_iff_ne]; omega
  have p0 : s ≤ 10 := by omega
  have p1 : 2 ≤ s := by omega
  have p2 : ¬ s ≤ 8 := by omega
  have p3 : 4 ≤ s := by omega
  have p4 : ¬ s ≤ 6 := by omega
  have r0 : decide (s ≤ 10) = true := by rw [decide_eq_true_iff]; omega
  have r1 : decide (2 ≤ s) = true := by rw [decide_eq_true_iff]; omega
  have r2 : decide (s ≤ 8) = false := by rw [decide_eq_false_iff_not]; omega
  have r3 : decide (4 ≤ s) = true := by rw [decide_eq_true_iff]; omega
  have r4 : decide (s ≤ 6) = false := by rw [decide_eq_false_iff_not]; omega
  have a0 : decide ((a : Int) < 0) = false := by rw [decide_eq_false_iff_not]; omega
  have a1 : decide ((30 : Int) < a) = false := by rw [decide_eq_false_iff_not]; omega
  have b0 : decide ((b : Int) < 0) = false := by rw [decide_eq_false_iff_not]; omega
  have b1 : decide ((30 : Int) < b) = false := by rw [decide_eq_false_iff_not]; omega
  have ED := Lib.hid ed
  have EN := Lib.hid en
  have EM := Lib.hid em
  have ER := Lib.hid er
  clear hw hIs hJs hSh hR1 hR2 hW1 hW2 hmem hlen hdd hX hY hZ hW0 ed en em er
  go_enter Tryd.func7, Tryd.ntmps7
  go_wp2_with fail
  rw [← HEQ.out, ← HXQ.out, ← HYQ.out, ← HZQ.out]
  refine (HSh.out _ (HT.out.below HKB.out.2.2.2.1)).mono ?_
  rintro e w' ⟨rfl, rfl⟩
  obtain ⟨⟨g0, g1, g2, g3, g4, g5, g6, g7, g8, g9⟩, gY, gZ, -⟩ := HKB.out
  go_wp2_with fail
  refine (HIs.out _ (HT.out.below HKB.out.2.2.2.1)).mono ?_
  rintro e w1 ⟨rfl, hb1⟩
  replace HKB := Lib.hid (HKB.out.below hb1)
  clear hb1 g0 g1 g2 g3 g4 g5 g6 g7 g8 g9 gY gZ
  obtain ⟨⟨k0, k1, k2, k3, k4, k5, k6, k7, k8, k9⟩, kY, kZ, -⟩ := HKB.out
  go_upto_region 6 with (fail)
  obtain ⟨J, hJ⟩ : ∃ J, J = w1.heap.size := ⟨_, rfl⟩
  obtain ⟨W2, hW2⟩ : ∃ W2, W2 = w1.alloc (.cells (inC ⟨o, d, n, m, ra, x, k, h, t, c⟩) 24) := ⟨_, rfl⟩
  have HKS : Hid (KS X Y Z J ⟨o, d, n, m, ra, x, k, h, t, c⟩ ⟨o, d, n, m, ra, x, k, h, t, c⟩ a b w W2) := Lib.hid (by
    rw [hW2, hJ]
    exact ⟨HKB.out.below ((Below.refl _ _).alloc (Nat.le_refl _) _), (MapKept.heap_alloc w1 _).1, HKB.out.2.2.2.2.1, HKB.out.2.2.2.2.2.1, HKB.out.2.2.2.2.2.2, HKB.out.2.2.2.1.size⟩)
  rw [← hW2, ← hJ]
  clear hW2 hJ HKB k0 k1 k2 k3 k4 k5 k6 k7 k8 k9 kY kZ
  obtain ⟨⟨k0, k1, k2, k3, k4, k5, k6, k7, k8, k9⟩, kY, kZ, -⟩ := HKS.out.1
  have jf := HKS.out.free 1
  have jc := HKS.out.copy
  obtain ⟨c0, c1, c2, c3, c4, c5, c6, c7, c8, c9⟩ := jc
  go_wp2_with fail
  refine (swap_any _ _ _ _ _ _ kY kZ).mono ?_
  rintro e w' ⟨rfl, rfl⟩
  go_upto_region 8 with (fail)
  rw [← ED.out]
  obtain ⟨Vd, hVd⟩ : ∃ V, V = W2.setCell ⟨J, 1, none⟩ (.int .i64 d') := ⟨_, rfl⟩
  rw [← hVd]
  replace HKS : Hid (KS X Y Z J ⟨o, d, n, m, ra, x, k, h, t, c⟩ ⟨o, d', n, m, ra, x, k, h, t, c⟩ a b w Vd) := Lib.hid (by rw [hVd]; exact HKS.out.set (j' := ⟨o, d', n, m, ra, x, k, h, t, c⟩) 1 _ rfl)
  clear hVd jf c0 c1 c2 c3 c4 c5 c6 c7 c8 c9 k0 k1 k2 k3 k4 k5 k6 k7 k8 k9 kY kZ
  obtain ⟨⟨k0, k1, k2, k3, k4, k5, k6, k7, k8, k9⟩, kY, kZ, -⟩ := HKS.out.1
  rw [show n' = n from EN.out] at HR2 HW2 HJs
  rw [show m' = m from EM.out] at HR2 HW2 HJs
  rw [show ra' = ra from ER.out] at HR2 HW2 HJs
  obtain ⟨c0, c1, c2, c3, c4, c5, c6, c7, c8, c9⟩ := HKS.out.copy
  go_wp2_with fail
  refine (HR1.out _ (HT.out.below HKS.out.low)).mono ?_
  rintro e w3 ⟨s1, v1, rfl, hsl, hnil, hb⟩
  have HS1 := Lib.hid hsl
  have HB3 := Lib.hid (Below.refl w3.heap.size w3)
  clear hsl hnil
  replace HKS := Lib.hid (HKS.out.below hb); clear hb k0 k1 k2 k3 k4 k5 k6 k7 k8 k9 kY kZ c0 c1 c2 c3 c4 c5 c6 c7 c8 c9; obtain ⟨⟨k0, k1, k2, k3, k4, k5, k6, k7, k8, k9⟩, kY, kZ, -⟩ := HKS.out.1; obtain ⟨c0, c1, c2, c3, c4, c5, c6, c7, c8, c9⟩ := HKS.out.copy
  go_wp2_with fail
  refine (HR2.out _ (HT.out.below HKS.out.low)).mono ?_
  rintro e w4 ⟨s2, v2, rfl, hsl, hnil, hb⟩
  have hnl := hsl.len
  rw [HLEN.out] at hsl ⊢
  have HS2 := Lib.hid hsl
  replace HS1 := Lib.hid (HS1.out.next hb)
  clear hsl hnil HB3 hnl
  replace HKS := Lib.hid (HKS.out.below hb); clear hb k0 k1 k2 k3 k4 k5 k6 k7 k8 k9 kY kZ c0 c1 c2 c3 c4 c5 c6 c7 c8 c9; obtain ⟨⟨k0, k1, k2, k3, k4, k5, k6, k7, k8, k9⟩, kY, kZ, -⟩ := HKS.out.1; obtain ⟨c0, c1, c2, c3, c4, c5, c6, c7, c8, c9⟩ := HKS.out.copy
  generalize hn1 : l1.length = n1 at *
  have HN1 := Lib.hid hn1
  clear hn1
  go_wp2
  go_loop [12] (fun i => ∃ j : Nat, j ≤ n1 ∧ i = .int .i64 j) (fun i => n1 - (intOf i).toNat)
  case atStart => exact ⟨0, by omega, rfl⟩
  case round =>
    obtain ⟨j, hj, rfl⟩ := hrel
    by_cases hlt2 : j < n1
    · have hj1 : j < l1.length := by rw [HN1.out]; exact hlt2
      obtain ⟨bl, off, rfl, hBb, hc⟩ := HS1.out.cells (HS1.out.ne (k := j) hlt2)
      have z0 := hc j hj1 0 (by omega)
      have HMY := HMEM.out _ (List.getElem_mem hj1)
      simp only [encI, Nat.add_zero, Nat.mul_one, List.getElem?_cons_zero] at z0
      generalize l1[j] = y at *
      have HSW := Lib.hid (swap_any Y Z a b y w4 kY kZ)
      have HHas : Hid (Calls Tryd.prog 23 #[.slice s2 n1 v2, .int .i64 (swp a b y)] w4 (Ret (.bool true) w4)) := Lib.hid (by have := has_any s2 n1 v2 l2 (swp a b y) w4 (by omega) HS2.out; rwa [HMY] at this)
      clear hc HMY
      go_wp2_with (first
        | (go_at_call 24; ((with_reducible refine HSW.out.mono ?_); rintro e w' ⟨rfl, rfl⟩))
        | (go_at_call 23; ((with_reducible refine HHas.out.mono ?_); rintro e w' ⟨rfl, rfl⟩)))
      go_round
      case rel => exact ⟨j + 1, by omega, by go_num⟩
      case measure => simp [intOf]; omega
    · clear HS1 HS2
      cases ok
      · go_wp2_with (first
          | (go_at_call 9; ((with_reducible refine (HW1.out _ (HT.out.below HKS.out.low)).mono ?_); rintro e w' ⟨rfl, hb⟩; replace HKS := Lib.hid (HKS.out.below hb); clear hb k0 k1 k2 k3 k4 k5 k6 k7 k8 k9 kY kZ c0 c1 c2 c3 c4 c5 c6 c7 c8 c9; obtain ⟨⟨k0, k1, k2, k3, k4, k5, k6, k7, k8, k9⟩, kY, kZ, -⟩ := HKS.out.1; obtain ⟨c0, c1, c2, c3, c4, c5, c6, c7, c8, c9⟩ := HKS.out.copy; clear HW1))
          | (go_at_call 9; ((with_reducible refine (HW2.out _ (HT.out.below HKS.out.low)).mono ?_); rintro e w' ⟨rfl, hb⟩; replace HKS := Lib.hid (HKS.out.below hb); clear hb k0 k1 k2 k3 k4 k5 k6 k7 k8 k9 kY kZ c0 c1 c2 c3 c4 c5 c6 c7 c8 c9; obtain ⟨⟨k0, k1, k2, k3, k4, k5, k6, k7, k8, k9⟩, kY, kZ, -⟩ := HKS.out.1; obtain ⟨c0, c1, c2, c3, c4, c5, c6, c7, c8, c9⟩ := HKS.out.copy))
          | (go_at_call 11; ((with_reducible refine (HC.out _ (HT.out.below HKS.out.low)).mono ?_); rintro e w' ⟨rfl, hb⟩; replace HKS := Lib.hid (HKS.out.below hb); clear hb k0 k1 k2 k3 k4 k5 k6 k7 k8 k9 kY kZ c0 c1 c2 c3 c4 c5 c6 c7 c8 c9; obtain ⟨⟨k0, k1, k2, k3, k4, k5, k6, k7, k8, k9⟩, kY, kZ, -⟩ := HKS.out.1; obtain ⟨c0, c1, c2, c3, c4, c5, c6, c7, c8, c9⟩ := HKS.out.copy))
          | (go_at_call 12; ((with_reducible refine (HJs.out _ (HT.out.below HKS.out.low)).mono ?_); rintro e w' ⟨rfl, hb⟩; replace HKS := Lib.hid (HKS.out.below hb); clear hb k0 k1 k2 k3 k4 k5 k6 k7 k8 k9 kY kZ c0 c1 c2 c3 c4 c5 c6 c7 c8 c9; obtain ⟨⟨k0, k1, k2, k3, k4, k5, k6, k7, k8, k9⟩, kY, kZ, -⟩ := HKS.out.1; obtain ⟨c0, c1, c2, c3, c4, c5, c6, c7, c8, c9⟩ := HKS.out.copy)))
        go_ret
        exact retB_bool rfl HKS.out.low
      · have qd : (swp a b d1 == d2) = true := by rw [beq_iff_eq]; exact HDD.out rfl
        go_wp2_with (first
          | (go_at_call 9; ((with_reducible refine (HW1.out _ (HT.out.below HKS.out.low)).mono ?_); rintro e w' ⟨rfl, hb⟩; replace HKS := Lib.hid (HKS.out.below hb); clear hb k0 k1 k2 k3 k4 k5 k6 k7 k8 k9 kY kZ c0 c1 c2 c3 c4 c5 c6 c7 c8 c9; obtain ⟨⟨k0, k1, k2, k3, k4, k5, k6, k7, k8, k9⟩, kY, kZ, -⟩ := HKS.out.1; obtain ⟨c0, c1, c2, c3, c4, c5, c6, c7, c8, c9⟩ := HKS.out.copy; clear HW1))
          | (go_at_call 9; ((with_reducible refine (HW2.out _ (HT.out.below HKS.out.low)).mono ?_); rintro e w' ⟨rfl, hb⟩; replace HKS := Lib.hid (HKS.out.below hb); clear hb k0 k1 k2 k3 k4 k5 k6 k7 k8 k9 kY kZ c0 c1 c2 c3 c4 c5 c6 c7 c8 c9; obtain ⟨⟨k0, k1, k2, k3, k4, k5, k6, k7, k8, k9⟩, kY, kZ, -⟩ := HKS.out.1; obtain ⟨c0, c1, c2, c3, c4, c5, c6, c7, c8, c9⟩ := HKS.out.copy))
          | (go_at_call 11; ((with_reducible refine (HC.out _ (HT.out.below HKS.out.low)).mono ?_); rintro e w' ⟨rfl, hb⟩; replace HKS := Lib.hid (HKS.out.below hb); clear hb k0 k1 k2 k3 k4 k5 k6 k7 k8 k9 kY kZ c0 c1 c2 c3 c4 c5 c6 c7 c8 c9; obtain ⟨⟨k0, k1, k2, k3, k4, k5, k6, k7, k8, k9⟩, kY, kZ, -⟩ := HKS.out.1; obtain ⟨c0, c1, c2, c3, c4, c5, c6, c7, c8, c9⟩ := HKS.out.copy))
          | (go_at_call 24; ((with_reducible refine (swap_any _ _ _ _ _ _ kY kZ).mono ?_); rintro e w' ⟨rfl, rfl⟩))
          | (go_at_call 12; ((with_reducible refine (HJs.out _ (HT.out.below HKS.out.low)).mono ?_); rintro e w' ⟨rfl, hb⟩; replace HKS := Lib.hid (HKS.out.below hb); clear hb k0 k1 k2 k3 k4 k5 k6 k7 k8 k9 kY kZ c0 c1 c2 c3 c4 c5 c6 c7 c8 c9; obtain ⟨⟨k0, k1, k2, k3, k4, k5, k6, k7, k8, k9⟩, kY, kZ, -⟩ := HKS.out.1; obtain ⟨c0, c1, c2, c3, c4, c5, c6, c7, c8, c9⟩ := HKS.out.copy)))
        go_ret
        exact retB_bool rfl HKS.out.low

set_option maxRecDepth 100000 in
set_option maxHeartbeats 16000000 in
theorem ren_g (o d n m ra x k h t c d' n' m' ra' s : Int) (a b : Nat) (ha : a < 31) (hb : b < 31) (w : World) (hw : Tab5 w) (f0 : 11 ≤ s) (f1 : s < 13)
    (ed : d' = d) (en : n' = n) (em : m' = m) (er : ra' = ra)
    (p37 : (o == 37) = false) (p30 : (o == 30) = false) (p35 : (o == 35) = false) (d1 d2 : Int) (ok : Bool) (l1 l2 : List Int) (hl32 : l1.length ≤ 32)
    (hmem : ∀ v ∈ l1, memB l2 (swp a b v) = true) (hlen : l2.length = l1.length) (hdd : ok = true → swp a b d1 = d2)
    (hIs : ∀ w, Tab5 w → Calls Tryd.prog 12 #[inV ⟨o, d, n, m, ra, x, k, h, t, c⟩] w (RetB (.bool true) w)) (hJs : ∀ w, Tab5 w → Calls Tryd.prog 12 #[inV ⟨o, d', n', m', ra', x, k, h, t, c⟩] w (RetB (.bool true) w))
    (hSh : ∀ w, Tab5 w → Calls Tryd.prog 19 #[.int .i64 o] w (Ret (.int .i64 s) w))
    (hR1 : ∀ w, Tab5 w → Calls Tryd.prog 15 #[inV ⟨o, d, n, m, ra, x, k, h, t, c⟩] w (RetL l1 w)) (hR2 : ∀ w, Tab5 w → Calls Tryd.prog 15 #[inV ⟨o, d', n', m', ra', x, k, h, t, c⟩] w (RetL l2 w))
    (hW1 : ∀ w, Tab5 w → Calls Tryd.prog 9 #[inV ⟨o, d, n, m, ra, x, k, h, t, c⟩] w (RetB (.tuple #[.int .i64 d1, .bool ok]) w)) (hW2 : ∀ w, Tab5 w → Calls Tryd.prog 9 #[inV ⟨o, d', n', m', ra', x, k, h, t, c⟩] w (RetB (.tuple #[.int .i64 d2, .bool ok]) w)) :
    Calls Tryd.prog 7 #[inV ⟨o, d, n, m, ra, x, k, h, t, c⟩, .int .i64 a, .int .i64 b] w (RetB (.bool true) w) := by
  have HT := Lib.hid hw
  have HC : Hid (∀ w, Tab5 w → Calls Tryd.prog 11 #[] w (RetB (.bool true) w)) := Lib.hid fun w h => shaped_any w h
  have HIs := Lib.hid hIs
  have HJs := Lib.hid hJs
  have HSh := Lib.hid hSh
  have HR1 := Lib.hid hR1
  have HR2 := Lib.hid hR2
  have HW1 := Lib.hid hW1
  have HW2 := Lib.hid hW2
  have HMEM := Lib.hid hmem
  have HLEN := Lib.hid hlen
  have HDD := Lib.hid hdd
  obtain ⟨X, hX⟩ : ∃ X, X = w.heap.size := ⟨_, rfl⟩
  obtain ⟨Y, hY⟩ : ∃ Y, Y = X + 1 := ⟨_, rfl⟩
  obtain ⟨Z, hZ⟩ : ∃ Z, Z = Y + 1 := ⟨_, rfl⟩
  obtain ⟨W0, hW0⟩ : ∃ W0, W0 = ((w.alloc (.cells (inC ⟨o, d, n, m, ra, x, k, h, t, c⟩) 24)).alloc (.cells #[.int .i64 a] 3)).alloc (.cells #[.int .i64 b] 3) := ⟨_, rfl⟩
  have HKB : Hid (KB X Y Z ⟨o, d, n, m, ra, x, k, h, t, c⟩ a b w W0) := Lib.hid (by rw [hZ, hY, hX, hW0]; exact KB.made w _ _ _)
  have HEQ := Lib.hid hW0
  have HXQ := Lib.hid hX
  have HYQ := Lib.hid hY
  have HZQ := Lib.hid hZ
  have q0 : (s == 16) = false := by rw [beq_eq_false_iff_ne]; omega
  have q1 : (s == 13) = false := by rw [beq_eq_false_iff_ne]; omega
  have q2 : (s == 6) = false := by rw [beq_eq_false_iff_ne]; omega
  have p0 : ¬ s ≤ 10 := by omega
  have p1 : 2 ≤ s := by omega
  have p2 : ¬ s ≤ 8 := by omega
  have p3 : 4 ≤ s := by omega
  have p4 : ¬ s ≤ 6 := by omega
  have r0 : decide (s ≤ 10) = false := by rw [decide_eq_false_iff_not]; omega
  have r1 : decide (2 ≤ s) = true := by rw [decide_eq_true_iff]; omega
  have r2 : decide (s ≤ 8) = false := by rw [decide_eq_false_iff_not]; omega
  have r3 : decide (4 ≤ s) = true := by rw [decide_eq_true_iff]; omega
  have r4 : decide (s ≤ 6) = false := by rw [decide_eq_false_iff_not]; omega
  have a0 : decide ((a : Int) < 0) = false := by rw [decide_eq_false_iff_not]; omega
  have a1 : decide ((30 : Int) < a) = false := by rw [decide_eq_false_iff_not]; omega
  have b0 : decide ((b : Int) < 0) = false := by rw [decide_eq_false_iff_not]; omega
  have b1 : decide ((30 : Int) < b) = false := by rw [decide_eq_false_iff_not]; omega
  have ED := Lib.hid ed
  have EN := Lib.hid en
  have EM := Lib.hid em
  have ER := Lib.hid er
  clear hw hIs hJs hSh hR1 hR2 hW1 hW2 hmem hlen hdd hX hY hZ hW0 ed en em er
  go_enter Tryd.func7, Tryd.ntmps7
  go_wp2_with fail
  rw [← HEQ.out, ← HXQ.out, ← HYQ.out, ← HZQ.out]
  refine (HSh.out _ (HT.out.below HKB.out.2.2.2.1)).mono ?_
  rintro e w' ⟨rfl, rfl⟩
  obtain ⟨⟨g0, g1, g2, g3, g4, g5, g6, g7, g8, g9⟩, gY, gZ, -⟩ := HKB.out
  go_wp2_with fail
  refine (HIs.out _ (HT.out.below HKB.out.2.2.2.1)).mono ?_
  rintro e w1 ⟨rfl, hb1⟩
  replace HKB := Lib.hid (HKB.out.below hb1)
  clear hb1 g0 g1 g2 g3 g4 g5 g6 g7 g8 g9 gY gZ
  obtain ⟨⟨k0, k1, k2, k3, k4, k5, k6, k7, k8, k9⟩, kY, kZ, -⟩ := HKB.out
  go_upto_region 6 with (fail)
  obtain ⟨J, hJ⟩ : ∃ J, J = w1.heap.size := ⟨_, rfl⟩
  obtain ⟨W2, hW2⟩ : ∃ W2, W2 = w1.alloc (.cells (inC ⟨o, d, n, m, ra, x, k, h, t, c⟩) 24) := ⟨_, rfl⟩
  have HKS : Hid (KS X Y Z J ⟨o, d, n, m, ra, x, k, h, t, c⟩ ⟨o, d, n, m, ra, x, k, h, t, c⟩ a b w W2) := Lib.hid (by
    rw [hW2, hJ]
    exact ⟨HKB.out.below ((Below.refl _ _).alloc (Nat.le_refl _) _), (MapKept.heap_alloc w1 _).1, HKB.out.2.2.2.2.1, HKB.out.2.2.2.2.2.1, HKB.out.2.2.2.2.2.2, HKB.out.2.2.2.1.size⟩)
  rw [← hW2, ← hJ]
  clear hW2 hJ HKB k0 k1 k2 k3 k4 k5 k6 k7 k8 k9 kY kZ
  obtain ⟨⟨k0, k1, k2, k3, k4, k5, k6, k7, k8, k9⟩, kY, kZ, -⟩ := HKS.out.1
  rw [show d' = d from ED.out] at HR2 HW2 HJs
  rw [show n' = n from EN.out] at HR2 HW2 HJs
  rw [show m' = m from EM.out] at HR2 HW2 HJs
  rw [show ra' = ra from ER.out] at HR2 HW2 HJs
  obtain ⟨c0, c1, c2, c3, c4, c5, c6, c7, c8, c9⟩ := HKS.out.copy
  go_wp2_with fail
  refine (HR1.out _ (HT.out.below HKS.out.low)).mono ?_
  rintro e w3 ⟨s1, v1, rfl, hsl, hnil, hb⟩
  have HS1 := Lib.hid hsl
  have HB3 := Lib.hid (Below.refl w3.heap.size w3)
  clear hsl hnil
  replace HKS := Lib.hid (HKS.out.below hb); clear hb k0 k1 k2 k3 k4 k5 k6 k7 k8 k9 kY kZ c0 c1 c2 c3 c4 c5 c6 c7 c8 c9; obtain ⟨⟨k0, k1, k2, k3, k4, k5, k6, k7, k8, k9⟩, kY, kZ, -⟩ := HKS.out.1; obtain ⟨c0, c1, c2, c3, c4, c5, c6, c7, c8, c9⟩ := HKS.out.copy
  go_wp2_with fail
  refine (HR2.out _ (HT.out.below HKS.out.low)).mono ?_
  rintro e w4 ⟨s2, v2, rfl, hsl, hnil, hb⟩
  have hnl := hsl.len
  rw [HLEN.out] at hsl ⊢
  have HS2 := Lib.hid hsl
  replace HS1 := Lib.hid (HS1.out.next hb)
  clear hsl hnil HB3 hnl
  replace HKS := Lib.hid (HKS.out.below hb); clear hb k0 k1 k2 k3 k4 k5 k6 k7 k8 k9 kY kZ c0 c1 c2 c3 c4 c5 c6 c7 c8 c9; obtain ⟨⟨k0, k1, k2, k3, k4, k5, k6, k7, k8, k9⟩, kY, kZ, -⟩ := HKS.out.1; obtain ⟨c0, c1, c2, c3, c4, c5, c6, c7, c8, c9⟩ := HKS.out.copy
  generalize hn1 : l1.length = n1 at *
  have HN1 := Lib.hid hn1
  clear hn1
  go_wp2
  go_loop [12] (fun i => ∃ j : Nat, j ≤ n1 ∧ i = .int .i64 j) (fun i => n1 - (intOf i).toNat)
  case atStart => exact ⟨0, by omega, rfl⟩
  case round =>
    obtain ⟨j, hj, rfl⟩ := hrel
    by_cases hlt2 : j < n1
    · have hj1 : j < l1.length := by rw [HN1.out]; exact hlt2
      obtain ⟨bl, off, rfl, hBb, hc⟩ := HS1.out.cells (HS1.out.ne (k := j) hlt2)
      have z0 := hc j hj1 0 (by omega)
      have HMY := HMEM.out _ (List.getElem_mem hj1)
      simp only [encI, Nat.add_zero, Nat.mul_one, List.getElem?_cons_zero] at z0
      generalize l1[j] = y at *
      have HSW := Lib.hid (swap_any Y Z a b y w4 kY kZ)
      have HHas : Hid (Calls Tryd.prog 23 #[.slice s2 n1 v2, .int .i64 (swp a b y)] w4 (Ret (.bool true) w4)) := Lib.hid (by have := has_any s2 n1 v2 l2 (swp a b y) w4 (by omega) HS2.out; rwa [HMY] at this)
      clear hc HMY
      go_wp2_with (first
        | (go_at_call 24; ((with_reducible refine HSW.out.mono ?_); rintro e w' ⟨rfl, rfl⟩))
        | (go_at_call 23; ((with_reducible refine HHas.out.mono ?_); rintro e w' ⟨rfl, rfl⟩)))
      go_round
      case rel => exact ⟨j + 1, by omega, by go_num⟩
      case measure => simp [intOf]; omega
    · clear HS1 HS2
      cases ok
      · go_wp2_with (first
          | (go_at_call 9; ((with_reducible refine (HW1.out _ (HT.out.below HKS.out.low)).mono ?_); rintro e w' ⟨rfl, hb⟩; replace HKS := Lib.hid (HKS.out.below hb); clear hb k0 k1 k2 k3 k4 k5 k6 k7 k8 k9 kY kZ c0 c1 c2 c3 c4 c5 c6 c7 c8 c9; obtain ⟨⟨k0, k1, k2, k3, k4, k5, k6, k7, k8, k9⟩, kY, kZ, -⟩ := HKS.out.1; obtain ⟨c0, c1, c2, c3, c4, c5, c6, c7, c8, c9⟩ := HKS.out.copy; clear HW1))
          | (go_at_call 9; ((with_reducible refine (HW2.out _ (HT.out.below HKS.out.low)).mono ?_); rintro e w' ⟨rfl, hb⟩; replace HKS := Lib.hid (HKS.out.below hb); clear hb k0 k1 k2 k3 k4 k5 k6 k7 k8 k9 kY kZ c0 c1 c2 c3 c4 c5 c6 c7 c8 c9; obtain ⟨⟨k0, k1, k2, k3, k4, k5, k6, k7, k8, k9⟩, kY, kZ, -⟩ := HKS.out.1; obtain ⟨c0, c1, c2, c3, c4, c5, c6, c7, c8, c9⟩ := HKS.out.copy))
          | (go_at_call 11; ((with_reducible refine (HC.out _ (HT.out.below HKS.out.low)).mono ?_); rintro e w' ⟨rfl, hb⟩; replace HKS := Lib.hid (HKS.out.below hb); clear hb k0 k1 k2 k3 k4 k5 k6 k7 k8 k9 kY kZ c0 c1 c2 c3 c4 c5 c6 c7 c8 c9; obtain ⟨⟨k0, k1, k2, k3, k4, k5, k6, k7, k8, k9⟩, kY, kZ, -⟩ := HKS.out.1; obtain ⟨c0, c1, c2, c3, c4, c5, c6, c7, c8, c9⟩ := HKS.out.copy))
          | (go_at_call 12; ((with_reducible refine (HJs.out _ (HT.out.below HKS.out.low)).mono ?_); rintro e w' ⟨rfl, hb⟩; replace HKS := Lib.hid (HKS.out.below hb); clear hb k0 k1 k2 k3 k4 k5 k6 k7 k8 k9 kY kZ c0 c1 c2 c3 c4 c5 c6 c7 c8 c9; obtain ⟨⟨k0, k1, k2, k3, k4, k5, k6, k7, k8, k9⟩, kY, kZ, -⟩ := HKS.out.1; obtain ⟨c0, c1, c2, c3, c4, c5, c6, c7, c8, c9⟩ := HKS.out.copy)))
        go_ret
        exact retB_bool rfl HKS.out.low
      · have qd : (swp a b d1 == d2) = true := by rw [beq_iff_eq]; exact HDD.out rfl
        go_wp2_with (first
          | (go_at_call 9; ((with_reducible refine (HW1.out _ (HT.out.below HKS.out.low)).mono ?_); rintro e w' ⟨rfl, hb⟩; replace HKS := Lib.hid (HKS.out.below hb); clear hb k0 k1 k2 k3 k4 k5 k6 k7 k8 k9 kY kZ c0 c1 c2 c3 c4 c5 c6 c7 c8 c9; obtain ⟨⟨k0, k1, k2, k3, k4, k5, k6, k7, k8, k9⟩, kY, kZ, -⟩ := HKS.out.1; obtain ⟨c0, c1, c2, c3, c4, c5, c6, c7, c8, c9⟩ := HKS.out.copy; clear HW1))
          | (go_at_call 9; ((with_reducible refine (HW2.out _ (HT.out.below HKS.out.low)).mono ?_); rintro e w' ⟨rfl, hb⟩; replace HKS := Lib.hid (HKS.out.below hb); clear hb k0 k1 k2 k3 k4 k5 k6 k7 k8 k9 kY kZ c0 c1 c2 c3 c4 c5 c6 c7 c8 c9; obtain ⟨⟨k0, k1, k2, k3, k4, k5, k6, k7, k8, k9⟩, kY, kZ, -⟩ := HKS.out.1; obtain ⟨c0, c1, c2, c3, c4, c5, c6, c7, c8, c9⟩ := HKS.out.copy))
          | (go_at_call 11; ((with_reducible refine (HC.out _ (HT.out.below HKS.out.low)).mono ?_); rintro e w' ⟨rfl, hb⟩; replace HKS := Lib.hid (HKS.out.below hb); clear hb k0 k1 k2 k3 k4 k5 k6 k7 k8 k9 kY kZ c0 c1 c2 c3 c4 c5 c6 c7 c8 c9; obtain ⟨⟨k0, k1, k2, k3, k4, k5, k6, k7, k8, k9⟩, kY, kZ, -⟩ := HKS.out.1; obtain ⟨c0, c1, c2, c3, c4, c5, c6, c7, c8, c9⟩ := HKS.out.copy))
          | (go_at_call 24; ((with_reducible refine (swap_any _ _ _ _ _ _ kY kZ).mono ?_); rintro e w' ⟨rfl, rfl⟩))
          | (go_at_call 12; ((with_reducible refine (HJs.out _ (HT.out.below HKS.out.low)).mono ?_); rintro e w' ⟨rfl, hb⟩; replace HKS := Lib.hid (HKS.out.below hb); clear hb k0 k1 k2 k3 k4 k5 k6 k7 k8 k9 kY kZ c0 c1 c2 c3 c4 c5 c6 c7 c8 c9; obtain ⟨⟨k0, k1, k2, k3, k4, k5, k6, k7, k8, k9⟩, kY, kZ, -⟩ := HKS.out.1; obtain ⟨c0, c1, c2, c3, c4, c5, c6, c7, c8, c9⟩ := HKS.out.copy)))
        go_ret
        exact retB_bool rfl HKS.out.low

set_option maxRecDepth 100000 in
set_option maxHeartbeats 16000000 in
theorem ren_h (o d n m ra x k h t c d' n' m' ra' s : Int) (a b : Nat) (ha : a < 31) (hb : b < 31) (w : World) (hw : Tab5 w) (f0 : 13 ≤ s) (f1 : s < 14)
    (ed : d' = d) (en : n' = swp a b n) (em : m' = m) (er : ra' = ra)
    (p37 : (o == 37) = false) (p30 : (o == 30) = false) (p35 : (o == 35) = false) (d1 d2 : Int) (ok : Bool) (l1 l2 : List Int) (hl32 : l1.length ≤ 32)
    (hmem : ∀ v ∈ l1, memB l2 (swp a b v) = true) (hlen : l2.length = l1.length) (hdd : ok = true → swp a b d1 = d2)
    (hIs : ∀ w, Tab5 w → Calls Tryd.prog 12 #[inV ⟨o, d, n, m, ra, x, k, h, t, c⟩] w (RetB (.bool true) w)) (hJs : ∀ w, Tab5 w → Calls Tryd.prog 12 #[inV ⟨o, d', n', m', ra', x, k, h, t, c⟩] w (RetB (.bool true) w))
    (hSh : ∀ w, Tab5 w → Calls Tryd.prog 19 #[.int .i64 o] w (Ret (.int .i64 s) w))
    (hR1 : ∀ w, Tab5 w → Calls Tryd.prog 15 #[inV ⟨o, d, n, m, ra, x, k, h, t, c⟩] w (RetL l1 w)) (hR2 : ∀ w, Tab5 w → Calls Tryd.prog 15 #[inV ⟨o, d', n', m', ra', x, k, h, t, c⟩] w (RetL l2 w))
    (hW1 : ∀ w, Tab5 w → Calls Tryd.prog 9 #[inV ⟨o, d, n, m, ra, x, k, h, t, c⟩] w (RetB (.tuple #[.int .i64 d1, .bool ok]) w)) (hW2 : ∀ w, Tab5 w → Calls Tryd.prog 9 #[inV ⟨o, d', n', m', ra', x, k, h, t, c⟩] w (RetB (.tuple #[.int .i64 d2, .bool ok]) w)) :
    Calls Tryd.prog 7 #[inV ⟨o, d, n, m, ra, x, k, h, t, c⟩, .int .i64 a, .int .i64 b] w (RetB (.bool true) w) := by
  have HT := Lib.hid hw
  have HC : Hid (∀ w, Tab5 w → Calls Tryd.prog 11 #[] w (RetB (.bool true) w)) := Lib.hid fun w h => shaped_any w h
  have HIs := Lib.hid hIs
  have HJs := Lib.hid hJs
  have HSh := Lib.hid hSh
  have HR1 := Lib.hid hR1
  have HR2 := Lib.hid hR2
  have HW1 := Lib.hid hW1
  have HW2 := Lib.hid hW2
  have HMEM := Lib.hid hmem
  have HLEN := Lib.hid hlen
  have HDD := Lib.hid hdd
  obtain ⟨X, hX⟩ : ∃ X, X = w.heap.size := ⟨_, rfl⟩
  obtain ⟨Y, hY⟩ : ∃ Y, Y = X + 1 := ⟨_, rfl⟩
  obtain ⟨Z, hZ⟩ : ∃ Z, Z = Y + 1 := ⟨_, rfl⟩
  obtain ⟨W0, hW0⟩ : ∃ W0, W0 = ((w.alloc (.cells (inC ⟨o, d, n, m, ra, x, k, h, t, c⟩) 24)).alloc (.cells #[.int .i64 a] 3)).alloc (.cells #[.int .i64 b] 3) := ⟨_, rfl⟩
  have HKB : Hid (KB X Y Z ⟨o, d, n, m, ra, x, k, h, t, c⟩ a b w W0) := Lib.hid (by rw [hZ, hY, hX, hW0]; exact KB.made w _ _ _)
  have HEQ := Lib.hid hW0
  have HXQ := Lib.hid hX
  have HYQ := Lib.hid hY
  have HZQ := Lib.hid hZ
  have q0 : (s == 16) = false := by rw [beq_eq_false_iff_ne]; omega
  have q1 : (s == 13) = true := by rw [beq_iff_eq]; omega
  have q2 : (s == 6) = false := by rw [beq_eq_false_iff_ne]; omega
  have p0 : ¬ s ≤ 10 := by omega
  have p1 : 2 ≤ s := by omega
  have p2 : ¬ s ≤ 8 := by omega
  have p3 : 4 ≤ s := by omega
  have p4 : ¬ s ≤ 6 := by omega
  have r0 : decide (s ≤ 10) = false := by rw [decide_eq_false_iff_not]; omega
  have r1 : decide (2 ≤ s) = true := by rw [decide_eq_true_iff]; omega
  have r2 : decide (s ≤ 8) = false := by rw [decide_eq_false_iff_not]; omega
  have r3 : decide (4 ≤ s) = true := by rw [decide_eq_true_iff]; omega
  have r4 : decide (s ≤ 6) = false := by rw [decide_eq_false_iff_not]; omega
  have a0 : decide ((a : Int) < 0) = false := by rw [decide_eq_false_iff_not]; omega
  have a1 : decide ((30 : Int) < a) = false := by rw [decide_eq_false_iff_not]; omega
  have b0 : decide ((b : Int) < 0) = false := by rw [decide_eq_false_iff_not]; omega
  have b1 : decide ((30 : Int) < b) = false := by rw [decide_eq_false_iff_not]; omega
  have ED := Lib.hid ed
  have EN := Lib.hid en
  have EM := Lib.hid em
  have ER := Lib.hid er
  clear hw hIs hJs hSh hR1 hR2 hW1 hW2 hmem hlen hdd hX hY hZ hW0 ed en em er
  go_enter Tryd.func7, Tryd.ntmps7
  go_wp2_with fail
  rw [← HEQ.out, ← HXQ.out, ← HYQ.out, ← HZQ.out]
  refine (HSh.out _ (HT.out.below HKB.out.2.2.2.1)).mono ?_
  rintro e w' ⟨rfl, rfl⟩
  obtain ⟨⟨g0, g1, g2, g3, g4, g5, g6, g7, g8, g9⟩, gY, gZ, -⟩ := HKB.out
  go_wp2_with fail
  refine (HIs.out _ (HT.out.below HKB.out.2.2.2.1)).mono ?_
  rintro e w1 ⟨rfl, hb1⟩
  replace HKB := Lib.hid (HKB.out.below hb1)
  clear hb1 g0 g1 g2 g3 g4 g5 g6 g7 g8 g9 gY gZ
  obtain ⟨⟨k0, k1, k2, k3, k4, k5, k6, k7, k8, k9⟩, kY, kZ, -⟩ := HKB.out
  go_upto_region 6 with (fail)
  obtain ⟨J, hJ⟩ : ∃ J, J = w1.heap.size := ⟨_, rfl⟩
  obtain ⟨W2, hW2⟩ : ∃ W2, W2 = w1.alloc (.cells (inC ⟨o, d, n, m, ra, x, k, h, t, c⟩) 24) := ⟨_, rfl⟩
  have HKS : Hid (KS X Y Z J ⟨o, d, n, m, ra, x, k, h, t, c⟩ ⟨o, d, n, m, ra, x, k, h, t, c⟩ a b w W2) := Lib.hid (by
    rw [hW2, hJ]
    exact ⟨HKB.out.below ((Below.refl _ _).alloc (Nat.le_refl _) _), (MapKept.heap_alloc w1 _).1, HKB.out.2.2.2.2.1, HKB.out.2.2.2.2.2.1, HKB.out.2.2.2.2.2.2, HKB.out.2.2.2.1.size⟩)
  rw [← hW2, ← hJ]
  clear hW2 hJ HKB k0 k1 k2 k3 k4 k5 k6 k7 k8 k9 kY kZ
  obtain ⟨⟨k0, k1, k2, k3, k4, k5, k6, k7, k8, k9⟩, kY, kZ, -⟩ := HKS.out.1
  have jf := HKS.out.free 2
  have jc := HKS.out.copy
  obtain ⟨c0, c1, c2, c3, c4, c5, c6, c7, c8, c9⟩ := jc
  go_wp2_with fail
  refine (swap_any _ _ _ _ _ _ kY kZ).mono ?_
  rintro e w' ⟨rfl, rfl⟩
  go_upto_region 10 with (fail)
  rw [← EN.out]
  obtain ⟨Vn, hVn⟩ : ∃ V, V = W2.setCell ⟨J, 2, none⟩ (.int .i64 n') := ⟨_, rfl⟩
  rw [← hVn]
  replace HKS : Hid (KS X Y Z J ⟨o, d, n, m, ra, x, k, h, t, c⟩ ⟨o, d, n', m, ra, x, k, h, t, c⟩ a b w Vn) := Lib.hid (by rw [hVn]; exact HKS.out.set (j' := ⟨o, d, n', m, ra, x, k, h, t, c⟩) 2 _ rfl)
  clear hVn jf c0 c1 c2 c3 c4 c5 c6 c7 c8 c9 k0 k1 k2 k3 k4 k5 k6 k7 k8 k9 kY kZ
  obtain ⟨⟨k0, k1, k2, k3, k4, k5, k6, k7, k8, k9⟩, kY, kZ, -⟩ := HKS.out.1
  rw [show d' = d from ED.out] at HR2 HW2 HJs
  rw [show m' = m from EM.out] at HR2 HW2 HJs
  rw [show ra' = ra from ER.out] at HR2 HW2 HJs
  obtain ⟨c0, c1, c2, c3, c4, c5, c6, c7, c8, c9⟩ := HKS.out.copy
  go_wp2_with fail
  refine (HR1.out _ (HT.out.below HKS.out.low)).mono ?_
  rintro e w3 ⟨s1, v1, rfl, hsl, hnil, hb⟩
  have HS1 := Lib.hid hsl
  have HB3 := Lib.hid (Below.refl w3.heap.size w3)
  clear hsl hnil
  replace HKS := Lib.hid (HKS.out.below hb); clear hb k0 k1 k2 k3 k4 k5 k6 k7 k8 k9 kY kZ c0 c1 c2 c3 c4 c5 c6 c7 c8 c9; obtain ⟨⟨k0, k1, k2, k3, k4, k5, k6, k7, k8, k9⟩, kY, kZ, -⟩ := HKS.out.1; obtain ⟨c0, c1, c2, c3, c4, c5, c6, c7, c8, c9⟩ := HKS.out.copy
  go_wp2_with fail
  refine (HR2.out _ (HT.out.below HKS.out.low)).mono ?_
  rintro e w4 ⟨s2, v2, rfl, hsl, hnil, hb⟩
  have hnl := hsl.len
  rw [HLEN.out] at hsl ⊢
  have HS2 := Lib.hid hsl
  replace HS1 := Lib.hid (HS1.out.next hb)
  clear hsl hnil HB3 hnl
  replace HKS := Lib.hid (HKS.out.below hb); clear hb k0 k1 k2 k3 k4 k5 k6 k7 k8 k9 kY kZ c0 c1 c2 c3 c4 c5 c6 c7 c8 c9; obtain ⟨⟨k0, k1, k2, k3, k4, k5, k6, k7, k8, k9⟩, kY, kZ, -⟩ := HKS.out.1; obtain ⟨c0, c1, c2, c3, c4, c5, c6, c7, c8, c9⟩ := HKS.out.copy
  generalize hn1 : l1.length = n1 at *
  have HN1 := Lib.hid hn1
  clear hn1
  go_wp2
  go_loop [12] (fun i => ∃ j : Nat, j ≤ n1 ∧ i = .int .i64 j) (fun i => n1 - (intOf i).toNat)
  case atStart => exact ⟨0, by omega, rfl⟩
  case round =>
    obtain ⟨j, hj, rfl⟩ := hrel
    by_cases hlt2 : j < n1
    · have hj1 : j < l1.length := by rw [HN1.out]; exact hlt2
      obtain ⟨bl, off, rfl, hBb, hc⟩ := HS1.out.cells (HS1.out.ne (k := j) hlt2)
      have z0 := hc j hj1 0 (by omega)
      have HMY := HMEM.out _ (List.getElem_mem hj1)
      simp only [encI, Nat.add_zero, Nat.mul_one, List.getElem?_cons_zero] at z0
      generalize l1[j] = y at *
      have HSW := Lib.hid (swap_any Y Z a b y w4 kY kZ)
      have HHas : Hid (Calls Tryd.prog 23 #[.slice s2 n1 v2, .int .i64 (swp a b y)] w4 (Ret (.bool true) w4)) := Lib.hid (by have := has_any s2 n1 v2 l2 (swp a b y) w4 (by omega) HS2.out; rwa [HMY] at this)
      clear hc HMY
      go_wp2_with (first
        | (go_at_call 24; ((with_reducible refine HSW.out.mono ?_); rintro e w' ⟨rfl, rfl⟩))
        | (go_at_call 23; ((with_reducible refine HHas.out.mono ?_); rintro e w' ⟨rfl, rfl⟩)))
      go_round
      case rel => exact ⟨j + 1, by omega, by go_num⟩
      case measure => simp [intOf]; omega
    · clear HS1 HS2
      cases ok
      · go_wp2_with (first
          | (go_at_call 9; ((with_reducible refine (HW1.out _ (HT.out.below HKS.out.low)).mono ?_); rintro e w' ⟨rfl, hb⟩; replace HKS := Lib.hid (HKS.out.below hb); clear hb k0 k1 k2 k3 k4 k5 k6 k7 k8 k9 kY kZ c0 c1 c2 c3 c4 c5 c6 c7 c8 c9; obtain ⟨⟨k0, k1, k2, k3, k4, k5, k6, k7, k8, k9⟩, kY, kZ, -⟩ := HKS.out.1; obtain ⟨c0, c1, c2, c3, c4, c5, c6, c7, c8, c9⟩ := HKS.out.copy; clear HW1))
          | (go_at_call 9; ((with_reducible refine (HW2.out _ (HT.out.below HKS.out.low)).mono ?_); rintro e w' ⟨rfl, hb⟩; replace HKS := Lib.hid (HKS.out.below hb); clear hb k0 k1 k2 k3 k4 k5 k6 k7 k8 k9 kY kZ c0 c1 c2 c3 c4 c5 c6 c7 c8 c9; obtain ⟨⟨k0, k1, k2, k3, k4, k5, k6, k7, k8, k9⟩, kY, kZ, -⟩ := HKS.out.1; obtain ⟨c0, c1, c2, c3, c4, c5, c6, c7, c8, c9⟩ := HKS.out.copy))
          | (go_at_call 11; ((with_reducible refine (HC.out _ (HT.out.below HKS.out.low)).mono ?_); rintro e w' ⟨rfl, hb⟩; replace HKS := Lib.hid (HKS.out.below hb); clear hb k0 k1 k2 k3 k4 k5 k6 k7 k8 k9 kY kZ c0 c1 c2 c3 c4 c5 c6 c7 c8 c9; obtain ⟨⟨k0, k1, k2, k3, k4, k5, k6, k7, k8, k9⟩, kY, kZ, -⟩ := HKS.out.1; obtain ⟨c0, c1, c2, c3, c4, c5, c6, c7, c8, c9⟩ := HKS.out.copy))
          | (go_at_call 12; ((with_reducible refine (HJs.out _ (HT.out.below HKS.out.low)).mono ?_); rintro e w' ⟨rfl, hb⟩; replace HKS := Lib.hid (HKS.out.below hb); clear hb k0 k1 k2 k3 k4 k5 k6 k7 k8 k9 kY kZ c0 c1 c2 c3 c4 c5 c6 c7 c8 c9; obtain ⟨⟨k0, k1, k2, k3, k4, k5, k6, k7, k8, k9⟩, kY, kZ, -⟩ := HKS.out.1; obtain ⟨c0, c1, c2, c3, c4, c5, c6, c7, c8, c9⟩ := HKS.out.copy)))
        go_ret
        exact retB_bool rfl HKS.out.low
      · have qd : (swp a b d1 == d2) = true := by rw [beq_iff_eq]; exact HDD.out rfl
        go_wp2_with (first
          | (go_at_call 9; ((with_reducible refine (HW1.out _ (HT.out.below HKS.out.low)).mono ?_); rintro e w' ⟨rfl, hb⟩; replace HKS := Lib.hid (HKS.out.below hb); clear hb k0 k1 k2 k3 k4 k5 k6 k7 k8 k9 kY kZ c0 c1 c2 c3 c4 c5 c6 c7 c8 c9; obtain ⟨⟨k0, k1, k2, k3, k4, k5, k6, k7, k8, k9⟩, kY, kZ, -⟩ := HKS.out.1; obtain ⟨c0, c1, c2, c3, c4, c5, c6, c7, c8, c9⟩ := HKS.out.copy; clear HW1))
          | (go_at_call 9; ((with_reducible refine (HW2.out _ (HT.out.below HKS.out.low)).mono ?_); rintro e w' ⟨rfl, hb⟩; replace HKS := Lib.hid (HKS.out.below hb); clear hb k0 k1 k2 k3 k4 k5 k6 k7 k8 k9 kY kZ c0 c1 c2 c3 c4 c5 c6 c7 c8 c9; obtain ⟨⟨k0, k1, k2, k3, k4, k5, k6, k7, k8, k9⟩, kY, kZ, -⟩ := HKS.out.1; obtain ⟨c0, c1, c2, c3, c4, c5, c6, c7, c8, c9⟩ := HKS.out.copy))
          | (go_at_call 11; ((with_reducible refine (HC.out _ (HT.out.below HKS.out.low)).mono ?_); rintro e w' ⟨rfl, hb⟩; replace HKS := Lib.hid (HKS.out.below hb); clear hb k0 k1 k2 k3 k4 k5 k6 k7 k8 k9 kY kZ c0 c1 c2 c3 c4 c5 c6 c7 c8 c9; obtain ⟨⟨k0, k1, k2, k3, k4, k5, k6, k7, k8, k9⟩, kY, kZ, -⟩ := HKS.out.1; obtain ⟨c0, c1, c2, c3, c4, c5, c6, c7, c8, c9⟩ := HKS.out.copy))
          | (go_at_call 24; ((with_reducible refine (swap_any _ _ _ _ _ _ kY kZ).mono ?_); rintro e w' ⟨rfl, rfl⟩))
          | (go_at_call 12; ((with_reducible refine (HJs.out _ (HT.out.below HKS.out.low)).mono ?_); rintro e w' ⟨rfl, hb⟩; replace HKS := Lib.hid (HKS.out.below hb); clear hb k0 k1 k2 k3 k4 k5 k6 k7 k8 k9 kY kZ c0 c1 c2 c3 c4 c5 c6 c7 c8 c9; obtain ⟨⟨k0, k1, k2, k3, k4, k5, k6, k7, k8, k9⟩, kY, kZ, -⟩ := HKS.out.1; obtain ⟨c0, c1, c2, c3, c4, c5, c6, c7, c8, c9⟩ := HKS.out.copy)))
        go_ret
        exact retB_bool rfl HKS.out.low

set_option maxRecDepth 100000 in
set_option maxHeartbeats 16000000 in
theorem ren_i (o d n m ra x k h t c d' n' m' ra' s : Int) (a b : Nat) (ha : a < 31) (hb : b < 31) (w : World) (hw : Tab5 w) (f0 : 14 ≤ s) (f1 : s < 16)
    (ed : d' = d) (en : n' = n) (em : m' = m) (er : ra' = ra)
    (p37 : (o == 37) = false) (p30 : (o == 30) = false) (p35 : (o == 35) = false) (d1 d2 : Int) (ok : Bool) (l1 l2 : List Int) (hl32 : l1.length ≤ 32)
    (hmem : ∀ v ∈ l1, memB l2 (swp a b v) = true) (hlen : l2.length = l1.length) (hdd : ok = true → swp a b d1 = d2)
    (hIs : ∀ w, Tab5 w → Calls Tryd.prog 12 #[inV ⟨o, d, n, m, ra, x, k, h, t, c⟩] w (RetB (.bool true) w)) (hJs : ∀ w, Tab5 w → Calls Tryd.prog 12 #[inV ⟨o, d', n', m', ra', x, k, h, t, c⟩] w (RetB (.bool true) w))
    (hSh : ∀ w, Tab5 w → Calls Tryd.prog 19 #[.int .i64 o] w (Ret (.int .i64 s) w))
    (hR1 : ∀ w, Tab5 w → Calls Tryd.prog 15 #[inV ⟨o, d, n, m, ra, x, k, h, t, c⟩] w (RetL l1 w)) (hR2 : ∀ w, Tab5 w → Calls Tryd.prog 15 #[inV ⟨o, d', n', m', ra', x, k, h, t, c⟩] w (RetL l2 w))
    (hW1 : ∀ w, Tab5 w → Calls Tryd.prog 9 #[inV ⟨o, d, n, m, ra, x, k, h, t, c⟩] w (RetB (.tuple #[.int .i64 d1, .bool ok]) w)) (hW2 : ∀ w, Tab5 w → Calls Tryd.prog 9 #[inV ⟨o, d', n', m', ra', x, k, h, t, c⟩] w (RetB (.tuple #[.int .i64 d2, .bool ok]) w)) :
    Calls Tryd.prog 7 #[inV ⟨o, d, n, m, ra, x, k, h, t, c⟩, .int .i64 a, .int .i64 b] w (RetB (.bool true) w) := by
  have HT := Lib.hid hw
  have HC : Hid (∀ w, Tab5 w → Calls Tryd.prog 11 #[] w (RetB (.bool true) w)) := Lib.hid fun w h => shaped_any w h
  have HIs := Lib.hid hIs
  have HJs := Lib.hid hJs
  have HSh := Lib.hid hSh
  have HR1 := Lib.hid hR1
  have HR2 := Lib.hid hR2
  have HW1 := Lib.hid hW1
  have HW2 := Lib.hid hW2
  have HMEM := Lib.hid hmem
  have HLEN := Lib.hid hlen
  have HDD := Lib.hid hdd
  obtain ⟨X, hX⟩ : ∃ X, X = w.heap.size := ⟨_, rfl⟩
  obtain ⟨Y, hY⟩ : ∃ Y, Y = X + 1 := ⟨_, rfl⟩
  obtain ⟨Z, hZ⟩ : ∃ Z, Z = Y + 1 := ⟨_, rfl⟩
  obtain ⟨W0, hW0⟩ : ∃ W0, W0 = ((w.alloc (.cells (inC ⟨o, d, n, m, ra, x, k, h, t, c⟩) 24)).alloc (.cells #[.int .i64 a] 3)).alloc (.cells #[.int .i64 b] 3) := ⟨_, rfl⟩
  have HKB : Hid (KB X Y Z ⟨o, d, n, m, ra, x, k, h, t, c⟩ a b w W0) := Lib.hid (by rw [hZ, hY, hX, hW0]; exact KB.made w _ _ _)
  have HEQ := Lib.hid hW0
  have HXQ := Lib.hid hX
  have HYQ := Lib.hid hY
  have HZQ := Lib.hid hZ
  have q0 : (s == 16) = false := by rw [beq_eq_false_iff_ne]; omega
  have q1 : (s == 13) = false := by rw [beq_eq_false_iff_ne]; omega
  have q2 : (s == 6) = false := by rw [beq_eq_false_iff_ne]; omega
  have p0 : ¬ s ≤ 10 := by omega
  have p1 : 2 ≤ s := by omega
  have p2 : ¬ s ≤ 8 := by omega
  have p3 : 4 ≤ s := by omega
  have p4 : ¬ s ≤ 6 := by omega
  have r0 : decide (s ≤ 10) = false := by rw [decide_eq_false_iff_not]; omega
  have r1 : decide (2 ≤ s) = true := by rw [decide_eq_true_iff]; omega
  have r2 : decide (s ≤ 8) = false := by rw [decide_eq_false_iff_not]; omega
  have r3 : decide (4 ≤ s) = true := by rw [decide_eq_true_iff]; omega
  have r4 : decide (s ≤ 6) = false := by rw [decide_eq_false_iff_not]; omega
  have a0 : decide ((a : Int) < 0) = false := by rw [decide_eq_false_iff_not]; omega
  have a1 : decide ((30 : Int) < a) = false := by rw [decide_eq_false_iff_not]; omega
  have b0 : decide ((b : Int) < 0) = false := by rw [decide_eq_false_iff_not]; omega
  have b1 : decide ((30 : Int) < b) = false := by rw [decide_eq_false_iff_not]; omega
  have ED := Lib.hid ed
  have EN := Lib.hid en
  have EM := Lib.hid em
  have ER := Lib.hid er
  clear hw hIs hJs hSh hR1 hR2 hW1 hW2 hmem hlen hdd hX hY hZ hW0 ed en em er
  go_enter Tryd.func7, Tryd.ntmps7
  go_wp2_with fail
  rw [← HEQ.out, ← HXQ.out, ← HYQ.out, ← HZQ.out]
  refine (HSh.out _ (HT.out.below HKB.out.2.2.2.1)).mono ?_
  rintro e w' ⟨rfl, rfl⟩
  obtain ⟨⟨g0, g1, g2, g3, g4, g5, g6, g7, g8, g9⟩, gY, gZ, -⟩ := HKB.out
  go_wp2_with fail
  refine (HIs.out _ (HT.out.below HKB.out.2.2.2.1)).mono ?_
  rintro e w1 ⟨rfl, hb1⟩
  replace HKB := Lib.hid (HKB.out.below hb1)
  clear hb1 g0 g1 g2 g3 g4 g5 g6 g7 g8 g9 gY gZ
  obtain ⟨⟨k0, k1, k2, k3, k4, k5, k6, k7, k8, k9⟩, kY, kZ, -⟩ := HKB.out
  go_upto_region 6 with (fail)
  obtain ⟨J, hJ⟩ : ∃ J, J = w1.heap.size := ⟨_, rfl⟩
  obtain ⟨W2, hW2⟩ : ∃ W2, W2 = w1.alloc (.cells (inC ⟨o, d, n, m, ra, x, k, h, t, c⟩) 24) := ⟨_, rfl⟩
  have HKS : Hid (KS X Y Z J ⟨o, d, n, m, ra, x, k, h, t, c⟩ ⟨o, d, n, m, ra, x, k, h, t, c⟩ a b w W2) := Lib.hid (by
    rw [hW2, hJ]
    exact ⟨HKB.out.below ((Below.refl _ _).alloc (Nat.le_refl _) _), (MapKept.heap_alloc w1 _).1, HKB.out.2.2.2.2.1, HKB.out.2.2.2.2.2.1, HKB.out.2.2.2.2.2.2, HKB.out.2.2.2.1.size⟩)
  rw [← hW2, ← hJ]
  clear hW2 hJ HKB k0 k1 k2 k3 k4 k5 k6 k7 k8 k9 kY kZ
  obtain ⟨⟨k0, k1, k2, k3, k4, k5, k6, k7, k8, k9⟩, kY, kZ, -⟩ := HKS.out.1
  rw [show d' = d from ED.out] at HR2 HW2 HJs
  rw [show n' = n from EN.out] at HR2 HW2 HJs
  rw [show m' = m from EM.out] at HR2 HW2 HJs
  rw [show ra' = ra from ER.out] at HR2 HW2 HJs
  obtain ⟨c0, c1, c2, c3, c4, c5, c6, c7, c8, c9⟩ := HKS.out.copy
  go_wp2_with fail
  refine (HR1.out _ (HT.out.below HKS.out.low)).mono ?_
  rintro e w3 ⟨s1, v1, rfl, hsl, hnil, hb⟩
  have HS1 := Lib.hid hsl
  have HB3 := Lib.hid (Below.refl w3.heap.size w3)
  clear hsl hnil
  replace HKS := Lib.hid (HKS.out.below hb); clear hb k0 k1 k2 k3 k4 k5 k6 k7 k8 k9 kY kZ c0 c1 c2 c3 c4 c5 c6 c7 c8 c9; obtain ⟨⟨k0, k1, k2, k3, k4, k5, k6, k7, k8, k9⟩, kY, kZ, -⟩ := HKS.out.1; obtain ⟨c0, c1, c2, c3, c4, c5, c6, c7, c8, c9⟩ := HKS.out.copy
  go_wp2_with fail
  refine (HR2.out _ (HT.out.below HKS.out.low)).mono ?_
  rintro e w4 ⟨s2, v2, rfl, hsl, hnil, hb⟩
  have hnl := hsl.len
  rw [HLEN.out] at hsl ⊢
  have HS2 := Lib.hid hsl
  replace HS1 := Lib.hid (HS1.out.next hb)
  clear hsl hnil HB3 hnl
  replace HKS := Lib.hid (HKS.out.below hb); clear hb k0 k1 k2 k3 k4 k5 k6 k7 k8 k9 kY kZ c0 c1 c2 c3 c4 c5 c6 c7 c8 c9; obtain ⟨⟨k0, k1, k2, k3, k4, k5, k6, k7, k8, k9⟩, kY, kZ, -⟩ := HKS.out.1; obtain ⟨c0, c1, c2, c3, c4, c5, c6, c7, c8, c9⟩ := HKS.out.copy
  generalize hn1 : l1.length = n1 at *
  have HN1 := Lib.hid hn1
  clear hn1
  go_wp2
  go_loop [12] (fun i => ∃ j : Nat, j ≤ n1 ∧ i = .int .i64 j) (fun i => n1 - (intOf i).toNat)
  case atStart => exact ⟨0, by omega, rfl⟩
  case round =>
    obtain ⟨j, hj, rfl⟩ := hrel
    by_cases hlt2 : j < n1
    · have hj1 : j < l1.length := by rw [HN1.out]; exact hlt2
      obtain ⟨bl, off, rfl, hBb, hc⟩ := HS1.out.cells (HS1.out.ne (k := j) hlt2)
      have z0 := hc j hj1 0 (by omega)
      have HMY := HMEM.out _ (List.getElem_mem hj1)
      simp only [encI, Nat.add_zero, Nat.mul_one, List.getElem?_cons_zero] at z0
      generalize l1[j] = y at *
      have HSW := Lib.hid (swap_any Y Z a b y w4 kY kZ)
      have HHas : Hid (Calls Tryd.prog 23 #[.slice s2 n1 v2, .int .i64 (swp a b y)] w4 (Ret (.bool true) w4)) := Lib.hid (by have := has_any s2 n1 v2 l2 (swp a b y) w4 (by omega) HS2.out; rwa [HMY] at this)
      clear hc HMY
      go_wp2_with (first
        | (go_at_call 24; ((with_reducible refine HSW.out.mono ?_); rintro e w' ⟨rfl, rfl⟩))
        | (go_at_call 23; ((with_reducible refine HHas.out.mono ?_); rintro e w' ⟨rfl, rfl⟩)))
      go_round
      case rel => exact ⟨j + 1, by omega, by go_num⟩
      case measure => simp [intOf]; omega
    · clear HS1 HS2
      cases ok
      · go_wp2_with (first
          | (go_at_call 9; ((with_reducible refine (HW1.out _ (HT.out.below HKS.out.low)).mono ?_); rintro e w' ⟨rfl, hb⟩; replace HKS := Lib.hid (HKS.out.below hb); clear hb k0 k1 k2 k3 k4 k5 k6 k7 k8 k9 kY kZ c0 c1 c2 c3 c4 c5 c6 c7 c8 c9; obtain ⟨⟨k0, k1, k2, k3, k4, k5, k6, k7, k8, k9⟩, kY, kZ, -⟩ := HKS.out.1; obtain ⟨c0, c1, c2, c3, c4, c5, c6, c7, c8, c9⟩ := HKS.out.copy; clear HW1))
          | (go_at_call 9; ((with_reducible refine (HW2.out _ (HT.out.below HKS.out.low)).mono ?_); rintro e w' ⟨rfl, hb⟩; replace HKS := Lib.hid (HKS.out.below hb); clear hb k0 k1 k2 k3 k4 k5 k6 k7 k8 k9 kY kZ c0 c1 c2 c3 c4 c5 c6 c7 c8 c9; obtain ⟨⟨k0, k1, k2, k3, k4, k5, k6, k7, k8, k9⟩, kY, kZ, -⟩ := HKS.out.1; obtain ⟨c0, c1, c2, c3, c4, c5, c6, c7, c8, c9⟩ := HKS.out.copy))
          | (go_at_call 11; ((with_reducible refine (HC.out _ (HT.out.below HKS.out.low)).mono ?_); rintro e w' ⟨rfl, hb⟩; replace HKS := Lib.hid (HKS.out.below hb); clear hb k0 k1 k2 k3 k4 k5 k6 k7 k8 k9 kY kZ c0 c1 c2 c3 c4 c5 c6 c7 c8 c9; obtain ⟨⟨k0, k1, k2, k3, k4, k5, k6, k7, k8, k9⟩, kY, kZ, -⟩ := HKS.out.1; obtain ⟨c0, c1, c2, c3, c4, c5, c6, c7, c8, c9⟩ := HKS.out.copy))
          | (go_at_call 12; ((with_reducible refine (HJs.out _ (HT.out.below HKS.out.low)).mono ?_); rintro e w' ⟨rfl, hb⟩; replace HKS := Lib.hid (HKS.out.below hb); clear hb k0 k1 k2 k3 k4 k5 k6 k7 k8 k9 kY kZ c0 c1 c2 c3 c4 c5 c6 c7 c8 c9; obtain ⟨⟨k0, k1, k2, k3, k4, k5, k6, k7, k8, k9⟩, kY, kZ, -⟩ := HKS.out.1; obtain ⟨c0, c1, c2, c3, c4, c5, c6, c7, c8, c9⟩ := HKS.out.copy)))
        go_ret
        exact retB_bool rfl HKS.out.low
      · have qd : (swp a b d1 == d2) = true := by rw [beq_iff_eq]; exact HDD.out rfl
        go_wp2_with (first
          | (go_at_call 9; ((with_reducible refine (HW1.out _ (HT.out.below HKS.out.low)).mono ?_); rintro e w' ⟨rfl, hb⟩; replace HKS := Lib.hid (HKS.out.below hb); clear hb k0 k1 k2 k3 k4 k5 k6 k7 k8 k9 kY kZ c0 c1 c2 c3 c4 c5 c6 c7 c8 c9; obtain ⟨⟨k0, k1, k2, k3, k4, k5, k6, k7, k8, k9⟩, kY, kZ, -⟩ := HKS.out.1; obtain ⟨c0, c1, c2, c3, c4, c5, c6, c7, c8, c9⟩ := HKS.out.copy; clear HW1))
          | (go_at_call 9; ((with_reducible refine (HW2.out _ (HT.out.below HKS.out.low)).mono ?_); rintro e w' ⟨rfl, hb⟩; replace HKS := Lib.hid (HKS.out.below hb); clear hb k0 k1 k2 k3 k4 k5 k6 k7 k8 k9 kY kZ c0 c1 c2 c3 c4 c5 c6 c7 c8 c9; obtain ⟨⟨k0, k1, k2, k3, k4, k5, k6, k7, k8, k9⟩, kY, kZ, -⟩ := HKS.out.1; obtain ⟨c0, c1, c2, c3, c4, c5, c6, c7, c8, c9⟩ := HKS.out.copy))
          | (go_at_call 11; ((with_reducible refine (HC.out _ (HT.out.below HKS.out.low)).mono ?_); rintro e w' ⟨rfl, hb⟩; replace HKS := Lib.hid (HKS.out.below hb); clear hb k0 k1 k2 k3 k4 k5 k6 k7 k8 k9 kY kZ c0 c1 c2 c3 c4 c5 c6 c7 c8 c9; obtain ⟨⟨k0, k1, k2, k3, k4, k5, k6, k7, k8, k9⟩, kY, kZ, -⟩ := HKS.out.1; obtain ⟨c0, c1, c2, c3, c4, c5, c6, c7, c8, c9⟩ := HKS.out.copy))
          | (go_at_call 24; ((with_reducible refine (swap_any _ _ _ _ _ _ kY kZ).mono ?_); rintro e w' ⟨rfl, rfl⟩))
          | (go_at_call 12; ((with_reducible refine (HJs.out _ (HT.out.below HKS.out.low)).mono ?_); rintro e w' ⟨rfl, hb⟩; replace HKS := Lib.hid (HKS.out.below hb); clear hb k0 k1 k2 k3 k4 k5 k6 k7 k8 k9 kY kZ c0 c1 c2 c3 c4 c5 c6 c7 c8 c9; obtain ⟨⟨k0, k1, k2, k3, k4, k5, k6, k7, k8, k9⟩, kY, kZ, -⟩ := HKS.out.1; obtain ⟨c0, c1, c2, c3, c4, c5, c6, c7, c8, c9⟩ := HKS.out.copy)))
        go_ret
        exact retB_bool rfl HKS.out.low

set_option maxRecDepth 100000 in
set_option maxHeartbeats 16000000 in
theorem ren_j (o d n m ra x k h t c d' n' m' ra' s : Int) (a b : Nat) (ha : a < 31) (hb : b < 31) (w : World) (hw : Tab5 w) (f0 : 16 ≤ s) (f1 : s < 17)
    (ed : d' = swp a b d) (en : n' = swp a b n) (em : m' = swp a b m) (er : ra' = ra)
    (p37 : (o == 37) = false) (p30 : (o == 30) = false) (p35 : (o == 35) = false) (d1 d2 : Int) (ok : Bool) (l1 l2 : List Int) (hl32 : l1.length ≤ 32)
    (hmem : ∀ v ∈ l1, memB l2 (swp a b v) = true) (hlen : l2.length = l1.length) (hdd : ok = true → swp a b d1 = d2)
    (hIs : ∀ w, Tab5 w → Calls Tryd.prog 12 #[inV ⟨o, d, n, m, ra, x, k, h, t, c⟩] w (RetB (.bool true) w)) (hJs : ∀ w, Tab5 w → Calls Tryd.prog 12 #[inV ⟨o, d', n', m', ra', x, k, h, t, c⟩] w (RetB (.bool true) w))
    (hSh : ∀ w, Tab5 w → Calls Tryd.prog 19 #[.int .i64 o] w (Ret (.int .i64 s) w))
    (hR1 : ∀ w, Tab5 w → Calls Tryd.prog 15 #[inV ⟨o, d, n, m, ra, x, k, h, t, c⟩] w (RetL l1 w)) (hR2 : ∀ w, Tab5 w → Calls Tryd.prog 15 #[inV ⟨o, d', n', m', ra', x, k, h, t, c⟩] w (RetL l2 w))
    (hW1 : ∀ w, Tab5 w → Calls Tryd.prog 9 #[inV ⟨o, d, n, m, ra, x, k, h, t, c⟩] w (RetB (.tuple #[.int .i64 d1, .bool ok]) w)) (hW2 : ∀ w, Tab5 w → Calls Tryd.prog 9 #[inV ⟨o, d', n', m', ra', x, k, h, t, c⟩] w (RetB (.tuple #[.int .i64 d2, .bool ok]) w)) :
    Calls Tryd.prog 7 #[inV ⟨o, d, n, m, ra, x, k, h, t, c⟩, .int .i64 a, .int .i64 b] w (RetB (.bool true) w) := by
  have HT := Lib.hid hw
  have HC : Hid (∀ w, Tab5 w → Calls Tryd.prog 11 #[] w (RetB (.bool true) w)) := Lib.hid fun w h => shaped_any w h
  have HIs := Lib.hid hIs
  have HJs := Lib.hid hJs
  have HSh := Lib.hid hSh
  have HR1 := Lib.hid hR1
  have HR2 := Lib.hid hR2
  have HW1 := Lib.hid hW1
  have HW2 := Lib.hid hW2
  have HMEM := Lib.hid hmem
  have HLEN := Lib.hid hlen
  have HDD := Lib.hid hdd
  obtain ⟨X, hX⟩ : ∃ X, X = w.heap.size := ⟨_, rfl⟩
  obtain ⟨Y, hY⟩ : ∃ Y, Y = X + 1 := ⟨_, rfl⟩
  obtain ⟨Z, hZ⟩ : ∃ Z, Z = Y + 1 := ⟨_, rfl⟩
  obtain ⟨W0, hW0⟩ : ∃ W0, W0 = ((w.alloc (.cells (inC ⟨o, d, n, m, ra, x, k, h, t, c⟩) 24)).alloc (.cells #[.int .i64 a] 3)).alloc (.cells #[.int .i64 b] 3) := ⟨_, rfl⟩
  have HKB : Hid (KB X Y Z ⟨o, d, n, m, ra, x, k, h, t, c⟩ a b w W0) := Lib.hid (by rw [hZ, hY, hX, hW0]; exact KB.made w _ _ _)
  have HEQ := Lib.hid hW0
  have HXQ := Lib.hid hX
  have HYQ := Lib.hid hY
  have HZQ := Lib.hid hZ
  have q0 : (s == 16) = true := by rw [beq_iff_eq]; omega
  have q1 : (s == 13) = false := by rw [beq_eq_false_iff_ne]; omega
  have q2 : (s == 6) = false := by rw [beq_eq_false_iff_ne]; omega
  have p0 : ¬ s ≤ 10 := by omega
  have p1 : 2 ≤ s := by omega
  have p2 : ¬ s ≤ 8 := by omega
  have p3 : 4 ≤ s := by omega
  have p4 : ¬ s ≤ 6 := by omega
  have r0 : decide (s ≤ 10) = false := by rw [decide_eq_false_iff_not]; omega
  have r1 : decide (2 ≤ s) = true := by rw [decide_eq_true_iff]; omega
  have r2 : decide (s ≤ 8) = false := by rw [decide_eq_false_iff_not]; omega
  have r3 : decide (4 ≤ s) = true := by rw [decide_eq_true_iff]; omega
  have r4 : decide (s ≤ 6) = false := by rw [decide_eq_false_iff_not]; omega
  have a0 : decide ((a : Int) < 0) = false := by rw [decide_eq_false_iff_not]; omega
  have a1 : decide ((30 : Int) < a) = false := by rw [decide_eq_false_iff_not]; omega
  have b0 : decide ((b : Int) < 0) = false := by rw [decide_eq_false_iff_not]; omega
  have b1 : decide ((30 : Int) < b) = false := by rw [decide_eq_false_iff_not]; omega
  have ED := Lib.hid ed
  have EN := Lib.hid en
  have EM := Lib.hid em
  have ER := Lib.hid er
  clear hw hIs hJs hSh hR1 hR2 hW1 hW2 hmem hlen hdd hX hY hZ hW0 ed en em er
  go_enter Tryd.func7, Tryd.ntmps7
  go_wp2_with fail
  rw [← HEQ.out, ← HXQ.out, ← HYQ.out, ← HZQ.out]
  refine (HSh.out _ (HT.out.below HKB.out.2.2.2.1)).mono ?_
  rintro e w' ⟨rfl, rfl⟩
  obtain ⟨⟨g0, g1, g2, g3, g4, g5, g6, g7, g8, g9⟩, gY, gZ, -⟩ := HKB.out
  go_wp2_with fail
  refine (HIs.out _ (HT.out.below HKB.out.2.2.2.1)).mono ?_
  rintro e w1 ⟨rfl, hb1⟩
  replace HKB := Lib.hid (HKB.out.below hb1)
  clear hb1 g0 g1 g2 g3 g4 g5 g6 g7 g8 g9 gY gZ
  obtain ⟨⟨k0, k1, k2, k3, k4, k5, k6, k7, k8, k9⟩, kY, kZ, -⟩ := HKB.out
  go_upto_region 6 with (fail)
  obtain ⟨J, hJ⟩ : ∃ J, J = w1.heap.size := ⟨_, rfl⟩
  obtain ⟨W2, hW2⟩ : ∃ W2, W2 = w1.alloc (.cells (inC ⟨o, d, n, m, ra, x, k, h, t, c⟩) 24) := ⟨_, rfl⟩
  have HKS : Hid (KS X Y Z J ⟨o, d, n, m, ra, x, k, h, t, c⟩ ⟨o, d, n, m, ra, x, k, h, t, c⟩ a b w W2) := Lib.hid (by
    rw [hW2, hJ]
    exact ⟨HKB.out.below ((Below.refl _ _).alloc (Nat.le_refl _) _), (MapKept.heap_alloc w1 _).1, HKB.out.2.2.2.2.1, HKB.out.2.2.2.2.2.1, HKB.out.2.2.2.2.2.2, HKB.out.2.2.2.1.size⟩)
  rw [← hW2, ← hJ]
  clear hW2 hJ HKB k0 k1 k2 k3 k4 k5 k6 k7 k8 k9 kY kZ
  obtain ⟨⟨k0, k1, k2, k3, k4, k5, k6, k7, k8, k9⟩, kY, kZ, -⟩ := HKS.out.1
  have jf := HKS.out.free 1
  have jc := HKS.out.copy
  obtain ⟨c0, c1, c2, c3, c4, c5, c6, c7, c8, c9⟩ := jc
  go_wp2_with fail
  refine (swap_any _ _ _ _ _ _ kY kZ).mono ?_
  rintro e w' ⟨rfl, rfl⟩
  go_upto_region 8 with (fail)
  rw [← ED.out]
  obtain ⟨Vd, hVd⟩ : ∃ V, V = W2.setCell ⟨J, 1, none⟩ (.int .i64 d') := ⟨_, rfl⟩
  rw [← hVd]
  replace HKS : Hid (KS X Y Z J ⟨o, d, n, m, ra, x, k, h, t, c⟩ ⟨o, d', n, m, ra, x, k, h, t, c⟩ a b w Vd) := Lib.hid (by rw [hVd]; exact HKS.out.set (j' := ⟨o, d', n, m, ra, x, k, h, t, c⟩) 1 _ rfl)
  clear hVd jf c0 c1 c2 c3 c4 c5 c6 c7 c8 c9 k0 k1 k2 k3 k4 k5 k6 k7 k8 k9 kY kZ
  obtain ⟨⟨k0, k1, k2, k3, k4, k5, k6, k7, k8, k9⟩, kY, kZ, -⟩ := HKS.out.1
  have jf := HKS.out.free 2
  have jc := HKS.out.copy
  obtain ⟨c0, c1, c2, c3, c4, c5, c6, c7, c8, c9⟩ := jc
  go_wp2_with fail
  refine (swap_any _ _ _ _ _ _ kY kZ).mono ?_
  rintro e w' ⟨rfl, rfl⟩
  go_upto_region 10 with (fail)
  rw [← EN.out]
  obtain ⟨Vn, hVn⟩ : ∃ V, V = Vd.setCell ⟨J, 2, none⟩ (.int .i64 n') := ⟨_, rfl⟩
  rw [← hVn]
  replace HKS : Hid (KS X Y Z J ⟨o, d, n, m, ra, x, k, h, t, c⟩ ⟨o, d', n', m, ra, x, k, h, t, c⟩ a b w Vn) := Lib.hid (by rw [hVn]; exact HKS.out.set (j' := ⟨o, d', n', m, ra, x, k, h, t, c⟩) 2 _ rfl)
  clear hVn jf c0 c1 c2 c3 c4 c5 c6 c7 c8 c9 k0 k1 k2 k3 k4 k5 k6 k7 k8 k9 kY kZ
  obtain ⟨⟨k0, k1, k2, k3, k4, k5, k6, k7, k8, k9⟩, kY, kZ, -⟩ := HKS.out.1
  have jf := HKS.out.free 3
  have jc := HKS.out.copy
  obtain ⟨c0, c1, c2, c3, c4, c5, c6, c7, c8, c9⟩ := jc
  go_wp2_with fail
  refine (swap_any _ _ _ _ _ _ kY kZ).mono ?_
  rintro e w' ⟨rfl, rfl⟩
  go_upto_region 12 with (fail)
  rw [← EM.out]
  obtain ⟨Vm, hVm⟩ : ∃ V, V = Vn.setCell ⟨J, 3, none⟩ (.int .i64 m') := ⟨_, rfl⟩
  rw [← hVm]
  replace HKS : Hid (KS X Y Z J ⟨o, d, n, m, ra, x, k, h, t, c⟩ ⟨o, d', n', m', ra, x, k, h, t, c⟩ a b w Vm) := Lib.hid (by rw [hVm]; exact HKS.out.set (j' := ⟨o, d', n', m', ra, x, k, h, t, c⟩) 3 _ rfl)
  clear hVm jf c0 c1 c2 c3 c4 c5 c6 c7 c8 c9 k0 k1 k2 k3 k4 k5 k6 k7 k8 k9 kY kZ
  obtain ⟨⟨k0, k1, k2, k3, k4, k5, k6, k7, k8, k9⟩, kY, kZ, -⟩ := HKS.out.1
  rw [show ra' = ra from ER.out] at HR2 HW2 HJs
  obtain ⟨c0, c1, c2, c3, c4, c5, c6, c7, c8, c9⟩ := HKS.out.copy
  go_wp2_with fail
  refine (HR1.out _ (HT.out.below HKS.out.low)).mono ?_
  rintro e w3 ⟨s1, v1, rfl, hsl, hnil, hb⟩
  have HS1 := Lib.hid hsl
  have HB3 := Lib.hid (Below.refl w3.heap.size w3)
  clear hsl hnil
  replace HKS := Lib.hid (HKS.out.below hb); clear hb k0 k1 k2 k3 k4 k5 k6 k7 k8 k9 kY kZ c0 c1 c2 c3 c4 c5 c6 c7 c8 c9; obtain ⟨⟨k0, k1, k2, k3, k4, k5, k6, k7, k8, k9⟩, kY, kZ, -⟩ := HKS.out.1; obtain ⟨c0, c1, c2, c3, c4, c5, c6, c7, c8, c9⟩ := HKS.out.copy
  go_wp2_with fail
  refine (HR2.out _ (HT.out.below HKS.out.low)).mono ?_
  rintro e w4 ⟨s2, v2, rfl, hsl, hnil, hb⟩
  have hnl := hsl.len
  rw [HLEN.out] at hsl ⊢
  have HS2 := Lib.hid hsl
  replace HS1 := Lib.hid (HS1.out.next hb)
  clear hsl hnil HB3 hnl
  replace HKS := Lib.hid (HKS.out.below hb); clear hb k0 k1 k2 k3 k4 k5 k6 k7 k8 k9 kY kZ c0 c1 c2 c3 c4 c5 c6 c7 c8 c9; obtain ⟨⟨k0, k1, k2, k3, k4, k5, k6, k7, k8, k9⟩, kY, kZ, -⟩ := HKS.out.1; obtain ⟨c0, c1, c2, c3, c4, c5, c6, c7, c8, c9⟩ := HKS.out.copy
  generalize hn1 : l1.length = n1 at *
  have HN1 := Lib.hid hn1
  clear hn1
  go_wp2
  go_loop [12] (fun i => ∃ j : Nat, j ≤ n1 ∧ i = .int .i64 j) (fun i => n1 - (intOf i).toNat)
  case atStart => exact ⟨0, by omega, rfl⟩
  case round =>
    obtain ⟨j, hj, rfl⟩ := hrel
    by_cases hlt2 : j < n1
    · have hj1 : j < l1.length := by rw [HN1.out]; exact hlt2
      obtain ⟨bl, off, rfl, hBb, hc⟩ := HS1.out.cells (HS1.out.ne (k := j) hlt2)
      have z0 := hc j hj1 0 (by omega)
      have HMY := HMEM.out _ (List.getElem_mem hj1)
      simp only [encI, Nat.add_zero, Nat.mul_one, List.getElem?_cons_zero] at z0
      generalize l1[j] = y at *
      have HSW := Lib.hid (swap_any Y Z a b y w4 kY kZ)
      have HHas : Hid (Calls Tryd.prog 23 #[.slice s2 n1 v2, .int .i64 (swp a b y)] w4 (Ret (.bool true) w4)) := Lib.hid (by have := has_any s2 n1 v2 l2 (swp a b y) w4 (by omega) HS2.out; rwa [HMY] at this)
      clear hc HMY
      go_wp2_with (first
        | (go_at_call 24; ((with_reducible refine HSW.out.mono ?_); rintro e w' ⟨rfl, rfl⟩))
        | (go_at_call 23; ((with_reducible refine HHas.out.mono ?_); rintro e w' ⟨rfl, rfl⟩)))
      go_round
      case rel => exact ⟨j + 1, by omega, by go_num⟩
      case measure => simp [intOf]; omega
    · clear HS1 HS2
      cases ok
      · go_wp2_with (first
          | (go_at_call 9; ((with_reducible refine (HW1.out _ (HT.out.below HKS.out.low)).mono ?_); rintro e w' ⟨rfl, hb⟩; replace HKS := Lib.hid (HKS.out.below hb); clear hb k0 k1 k2 k3 k4 k5 k6 k7 k8 k9 kY kZ c0 c1 c2 c3 c4 c5 c6 c7 c8 c9; obtain ⟨⟨k0, k1, k2, k3, k4, k5, k6, k7, k8, k9⟩, kY, kZ, -⟩ := HKS.out.1; obtain ⟨c0, c1, c2, c3, c4, c5, c6, c7, c8, c9⟩ := HKS.out.copy; clear HW1))
          | (go_at_call 9; ((with_reducible refine (HW2.out _ (HT.out.below HKS.out.low)).mono ?_); rintro e w' ⟨rfl, hb⟩; replace HKS := Lib.hid (HKS.out.below hb); clear hb k0 k1 k2 k3 k4 k5 k6 k7 k8 k9 kY kZ c0 c1 c2 c3 c4 c5 c6 c7 c8 c9; obtain ⟨⟨k0, k1, k2, k3, k4, k5, k6, k7, k8, k9⟩, kY, kZ, -⟩ := HKS.out.1; obtain ⟨c0, c1, c2, c3, c4, c5, c6, c7, c8, c9⟩ := HKS.out.copy))
          | (go_at_call 11; ((with_reducible refine (HC.out _ (HT.out.below HKS.out.low)).mono ?_); rintro e w' ⟨rfl, hb⟩; replace HKS := Lib.hid (HKS.out.below hb); clear hb k0 k1 k2 k3 k4 k5 k6 k7 k8 k9 kY kZ c0 c1 c2 c3 c4 c5 c6 c7 c8 c9; obtain ⟨⟨k0, k1, k2, k3, k4, k5, k6, k7, k8, k9⟩, kY, kZ, -⟩ := HKS.out.1; obtain ⟨c0, c1, c2, c3, c4, c5, c6, c7, c8, c9⟩ := HKS.out.copy))
          | (go_at_call 12; ((with_reducible refine (HJs.out _ (HT.out.below HKS.out.low)).mono ?_); rintro e w' ⟨rfl, hb⟩; replace HKS := Lib.hid (HKS.out.below hb); clear hb k0 k1 k2 k3 k4 k5 k6 k7 k8 k9 kY kZ c0 c1 c2 c3 c4 c5 c6 c7 c8 c9; obtain ⟨⟨k0, k1, k2, k3, k4, k5, k6, k7, k8, k9⟩, kY, kZ, -⟩ := HKS.out.1; obtain ⟨c0, c1, c2, c3, c4, c5, c6, c7, c8, c9⟩ := HKS.out.copy)))
        go_ret
        exact retB_bool rfl HKS.out.low
      · have qd : (swp a b d1 == d2) = true := by rw [beq_iff_eq]; exact HDD.out rfl
        go_wp2_with (first
          | (go_at_call 9; ((with_reducible refine (HW1.out _ (HT.out.below HKS.out.low)).mono ?_); rintro e w' ⟨rfl, hb⟩; replace HKS := Lib.hid (HKS.out.below hb); clear hb k0 k1 k2 k3 k4 k5 k6 k7 k8 k9 kY kZ c0 c1 c2 c3 c4 c5 c6 c7 c8 c9; obtain ⟨⟨k0, k1, k2, k3, k4, k5, k6, k7, k8, k9⟩, kY, kZ, -⟩ := HKS.out.1; obtain ⟨c0, c1, c2, c3, c4, c5, c6, c7, c8, c9⟩ := HKS.out.copy; clear HW1))
          | (go_at_call 9; ((with_reducible refine (HW2.out _ (HT.out.below HKS.out.low)).mono ?_); rintro e w' ⟨rfl, hb⟩; replace HKS := Lib.hid (HKS.out.below hb); clear hb k0 k1 k2 k3 k4 k5 k6 k7 k8 k9 kY kZ c0 c1 c2 c3 c4 c5 c6 c7 c8 c9; obtain ⟨⟨k0, k1, k2, k3, k4, k5, k6, k7, k8, k9⟩, kY, kZ, -⟩ := HKS.out.1; obtain ⟨c0, c1, c2, c3, c4, c5, c6, c7, c8, c9⟩ := HKS.out.copy))
          | (go_at_call 11; ((with_reducible refine (HC.out _ (HT.out.below HKS.out.low)).mono ?_); rintro e w' ⟨rfl, hb⟩; replace HKS := Lib.hid (HKS.out.below hb); clear hb k0 k1 k2 k3 k4 k5 k6 k7 k8 k9 kY kZ c0 c1 c2 c3 c4 c5 c6 c7 c8 c9; obtain ⟨⟨k0, k1, k2, k3, k4, k5, k6, k7, k8, k9⟩, kY, kZ, -⟩ := HKS.out.1; obtain ⟨c0, c1, c2, c3, c4, c5, c6, c7, c8, c9⟩ := HKS.out.copy))
          | (go_at_call 24; ((with_reducible refine (swap_any _ _ _ _ _ _ kY kZ).mono ?_); rintro e w' ⟨rfl, rfl⟩))
          | (go_at_call 12; ((with_reducible refine (HJs.out _ (HT.out.below HKS.out.low)).mono ?_); rintro e w' ⟨rfl, hb⟩; replace HKS := Lib.hid (HKS.out.below hb); clear hb k0 k1 k2 k3 k4 k5 k6 k7 k8 k9 kY kZ c0 c1 c2 c3 c4 c5 c6 c7 c8 c9; obtain ⟨⟨k0, k1, k2, k3, k4, k5, k6, k7, k8, k9⟩, kY, kZ, -⟩ := HKS.out.1; obtain ⟨c0, c1, c2, c3, c4, c5, c6, c7, c8, c9⟩ := HKS.out.copy)))
        go_ret
        exact retB_bool rfl HKS.out.low

end Go.Proofs.YtjnmkelppjcofaaDoor
