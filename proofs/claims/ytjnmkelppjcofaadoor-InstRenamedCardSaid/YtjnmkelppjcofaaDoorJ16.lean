/- The law InstRenamed, where nothing is renamed. -/
import Derived.Test.YtjnmkelppjcofaaDoorJ12
namespace Go.Proofs.YtjnmkelppjcofaaDoor
set_option linter.unusedVariables false
set_option linter.unusedSimpArgs false
open Go.RowKit

set_option maxRecDepth 100000 in
set_option maxHeartbeats 8000000 in
theorem renno_1 (o d n m ra x k h t c a b s : Int) (w : World) (hw : Tab5 w) 
    (hIs : ∀ w, Tab5 w → Calls Tryd.prog 12 #[inV ⟨o, d, n, m, ra, x, k, h, t, c⟩] w (RetB (.bool false) w)) (hSh : ∀ w, Tab5 w → Calls Tryd.prog 19 #[.int .i64 o] w (Ret (.int .i64 s) w)) :
    Calls Tryd.prog 7 #[inV ⟨o, d, n, m, ra, x, k, h, t, c⟩, .int .i64 a, .int .i64 b] w (RetB (.bool true) w) := by
  have HT := Lib.hid hw
  have HC : Hid (∀ w, Tab5 w → Calls Tryd.prog 11 #[] w (RetB (.bool true) w)) := Lib.hid fun w h => shaped_any w h
  have HIs := Lib.hid hIs
  have HSh := Lib.hid hSh
  obtain ⟨X, hX⟩ : ∃ X, X = w.heap.size := ⟨_, rfl⟩
  obtain ⟨Y, hY⟩ : ∃ Y, Y = X + 1 := ⟨_, rfl⟩
  obtain ⟨Z, hZ⟩ : ∃ Z, Z = Y + 1 := ⟨_, rfl⟩
  obtain ⟨W0, hW0⟩ : ∃ W0, W0 = ((w.alloc (.cells (inC ⟨o, d, n, m, ra, x, k, h, t, c⟩) 24)).alloc (.cells #[.int .i64 a] 3)).alloc (.cells #[.int .i64 b] 3) := ⟨_, rfl⟩
  have HKB : Hid (KB X Y Z ⟨o, d, n, m, ra, x, k, h, t, c⟩ a b w W0) := Lib.hid (by rw [hZ, hY, hX, hW0]; exact KB.made w _ _ _)
  have HEQ := Lib.hid hW0
  have HXQ := Lib.hid hX
  have HYQ := Lib.hid hY
  have HZQ := Lib.hid hZ
  clear hw hIs hSh hX hY hZ hW0
  go_enter Tryd.func7, Tryd.ntmps7
  go_wp2_with fail
  rw [← HEQ.out, ← HXQ.out, ← HYQ.out, ← HZQ.out]
  refine (HSh.out _ (HT.out.below HKB.out.2.2.2.1)).mono ?_
  rintro e w' ⟨rfl, rfl⟩
  obtain ⟨⟨g0, g1, g2, g3, g4, g5, g6, g7, g8, g9⟩, gY, gZ, -⟩ := HKB.out
  go_wp2_with fail
  refine (HIs.out _ (HT.out.below HKB.out.2.2.2.1)).mono ?_
  rintro e w1 ⟨rfl, hb1⟩
  replace HKB := Lib.hid (HKB.out.below hb1)
  clear hb1 g0 g1 g2 g3 g4 g5 g6 g7 g8 g9 gY gZ
  have HL : Hid (Below w.heap.size w w1) := Lib.hid HKB.out.2.2.2.1
  obtain ⟨⟨k0, k1, k2, k3, k4, k5, k6, k7, k8, k9⟩, kY, kZ, -⟩ := HKB.out
  go_wp2_with (go_at_call 11; ((with_reducible refine (HC.out _ (HT.out.below HL.out)).mono ?_); rintro e w2 ⟨rfl, hb2⟩; replace HL := Lib.hid (after HL.out hb2); clear hb2))
  go_ret
  exact ⟨rfl, HL.out⟩

set_option maxRecDepth 100000 in
set_option maxHeartbeats 8000000 in
theorem renno_2 (o d n m ra x k h t c a b s : Int) (w : World) (hw : Tab5 w) (f0 : a < 0)
    (hIs : ∀ w, Tab5 w → Calls Tryd.prog 12 #[inV ⟨o, d, n, m, ra, x, k, h, t, c⟩] w (RetB (.bool true) w)) (hSh : ∀ w, Tab5 w → Calls Tryd.prog 19 #[.int .i64 o] w (Ret (.int .i64 s) w)) :
    Calls Tryd.prog 7 #[inV ⟨o, d, n, m, ra, x, k, h, t, c⟩, .int .i64 a, .int .i64 b] w (RetB (.bool true) w) := by
  have HT := Lib.hid hw
  have HC : Hid (∀ w, Tab5 w → Calls Tryd.prog 11 #[] w (RetB (.bool true) w)) := Lib.hid fun w h => shaped_any w h
  have HIs := Lib.hid hIs
  have HSh := Lib.hid hSh
  obtain ⟨X, hX⟩ : ∃ X, X = w.heap.size := ⟨_, rfl⟩
  obtain ⟨Y, hY⟩ : ∃ Y, Y = X + 1 := ⟨_, rfl⟩
  obtain ⟨Z, hZ⟩ : ∃ Z, Z = Y + 1 := ⟨_, rfl⟩
  obtain ⟨W0, hW0⟩ : ∃ W0, W0 = ((w.alloc (.cells (inC ⟨o, d, n, m, ra, x, k, h, t, c⟩) 24)).alloc (.cells #[.int .i64 a] 3)).alloc (.cells #[.int .i64 b] 3) := ⟨_, rfl⟩
  have HKB : Hid (KB X Y Z ⟨o, d, n, m, ra, x, k, h, t, c⟩ a b w W0) := Lib.hid (by rw [hZ, hY, hX, hW0]; exact KB.made w _ _ _)
  have HEQ := Lib.hid hW0
  have HXQ := Lib.hid hX
  have HYQ := Lib.hid hY
  have HZQ := Lib.hid hZ
  clear hw hIs hSh hX hY hZ hW0
  go_enter Tryd.func7, Tryd.ntmps7
  go_wp2_with fail
  rw [← HEQ.out, ← HXQ.out, ← HYQ.out, ← HZQ.out]
  refine (HSh.out _ (HT.out.below HKB.out.2.2.2.1)).mono ?_
  rintro e w' ⟨rfl, rfl⟩
  obtain ⟨⟨g0, g1, g2, g3, g4, g5, g6, g7, g8, g9⟩, gY, gZ, -⟩ := HKB.out
  go_wp2_with fail
  refine (HIs.out _ (HT.out.below HKB.out.2.2.2.1)).mono ?_
  rintro e w1 ⟨rfl, hb1⟩
  replace HKB := Lib.hid (HKB.out.below hb1)
  clear hb1 g0 g1 g2 g3 g4 g5 g6 g7 g8 g9 gY gZ
  have HL : Hid (Below w.heap.size w w1) := Lib.hid HKB.out.2.2.2.1
  obtain ⟨⟨k0, k1, k2, k3, k4, k5, k6, k7, k8, k9⟩, kY, kZ, -⟩ := HKB.out
  go_wp2_with (go_at_call 11; ((with_reducible refine (HC.out _ (HT.out.below HL.out)).mono ?_); rintro e w2 ⟨rfl, hb2⟩; replace HL := Lib.hid (after HL.out hb2); clear hb2))
  go_ret
  exact ⟨rfl, HL.out⟩

set_option maxRecDepth 100000 in
set_option maxHeartbeats 8000000 in
theorem renno_3 (o d n m ra x k h t c a b s : Int) (w : World) (hw : Tab5 w) (f0 : 0 ≤ a) (f1 : 30 < a)
    (hIs : ∀ w, Tab5 w → Calls Tryd.prog 12 #[inV ⟨o, d, n, m, ra, x, k, h, t, c⟩] w (RetB (.bool true) w)) (hSh : ∀ w, Tab5 w → Calls Tryd.prog 19 #[.int .i64 o] w (Ret (.int .i64 s) w)) :
    Calls Tryd.prog 7 #[inV ⟨o, d, n, m, ra, x, k, h, t, c⟩, .int .i64 a, .int .i64 b] w (RetB (.bool true) w) := by
  have HT := Lib.hid hw
  have HC : Hid (∀ w, Tab5 w → Calls Tryd.prog 11 #[] w (RetB (.bool true) w)) := Lib.hid fun w h => shaped_any w h
  have HIs := Lib.hid hIs
  have HSh := Lib.hid hSh
  obtain ⟨X, hX⟩ : ∃ X, X = w.heap.size := ⟨_, rfl⟩
  obtain ⟨Y, hY⟩ : ∃ Y, Y = X + 1 := ⟨_, rfl⟩
  obtain ⟨Z, hZ⟩ : ∃ Z, Z = Y + 1 := ⟨_, rfl⟩
  obtain ⟨W0, hW0⟩ : ∃ W0, W0 = ((w.alloc (.cells (inC ⟨o, d, n, m, ra, x, k, h, t, c⟩) 24)).alloc (.cells #[.int .i64 a] 3)).alloc (.cells #[.int .i64 b] 3) := ⟨_, rfl⟩
  have HKB : Hid (KB X Y Z ⟨o, d, n, m, ra, x, k, h, t, c⟩ a b w W0) := Lib.hid (by rw [hZ, hY, hX, hW0]; exact KB.made w _ _ _)
  have HEQ := Lib.hid hW0
  have HXQ := Lib.hid hX
  have HYQ := Lib.hid hY
  have HZQ := Lib.hid hZ
  clear hw hIs hSh hX hY hZ hW0
  go_enter Tryd.func7, Tryd.ntmps7
  go_wp2_with fail
  rw [← HEQ.out, ← HXQ.out, ← HYQ.out, ← HZQ.out]
  refine (HSh.out _ (HT.out.below HKB.out.2.2.2.1)).mono ?_
  rintro e w' ⟨rfl, rfl⟩
  obtain ⟨⟨g0, g1, g2, g3, g4, g5, g6, g7, g8, g9⟩, gY, gZ, -⟩ := HKB.out
  go_wp2_with fail
  refine (HIs.out _ (HT.out.below HKB.out.2.2.2.1)).mono ?_
  rintro e w1 ⟨rfl, hb1⟩
  replace HKB := Lib.hid (HKB.out.below hb1)
  clear hb1 g0 g1 g2 g3 g4 g5 g6 g7 g8 g9 gY gZ
  have HL : Hid (Below w.heap.size w w1) := Lib.hid HKB.out.2.2.2.1
  obtain ⟨⟨k0, k1, k2, k3, k4, k5, k6, k7, k8, k9⟩, kY, kZ, -⟩ := HKB.out
  go_wp2_with (go_at_call 11; ((with_reducible refine (HC.out _ (HT.out.below HL.out)).mono ?_); rintro e w2 ⟨rfl, hb2⟩; replace HL := Lib.hid (after HL.out hb2); clear hb2))
  go_ret
  exact ⟨rfl, HL.out⟩

set_option maxRecDepth 100000 in
set_option maxHeartbeats 8000000 in
theorem renno_4 (o d n m ra x k h t c a b s : Int) (w : World) (hw : Tab5 w) (f0 : 0 ≤ a) (f1 : a ≤ 30) (f2 : b < 0)
    (hIs : ∀ w, Tab5 w → Calls Tryd.prog 12 #[inV ⟨o, d, n, m, ra, x, k, h, t, c⟩] w (RetB (.bool true) w)) (hSh : ∀ w, Tab5 w → Calls Tryd.prog 19 #[.int .i64 o] w (Ret (.int .i64 s) w)) :
    Calls Tryd.prog 7 #[inV ⟨o, d, n, m, ra, x, k, h, t, c⟩, .int .i64 a, .int .i64 b] w (RetB (.bool true) w) := by
  have HT := Lib.hid hw
  have HC : Hid (∀ w, Tab5 w → Calls Tryd.prog 11 #[] w (RetB (.bool true) w)) := Lib.hid fun w h => shaped_any w h
  have HIs := Lib.hid hIs
  have HSh := Lib.hid hSh
  obtain ⟨X, hX⟩ : ∃ X, X = w.heap.size := ⟨_, rfl⟩
  obtain ⟨Y, hY⟩ : ∃ Y, Y = X + 1 := ⟨_, rfl⟩
  obtain ⟨Z, hZ⟩ : ∃ Z, Z = Y + 1 := ⟨_, rfl⟩
  obtain ⟨W0, hW0⟩ : ∃ W0, W0 = ((w.alloc (.cells (inC ⟨o, d, n, m, ra, x, k, h, t, c⟩) 24)).alloc (.cells #[.int .i64 a] 3)).alloc (.cells #[.int .i64 b] 3) := ⟨_, rfl⟩
  have HKB : Hid (KB X Y Z ⟨o, d, n, m, ra, x, k, h, t, c⟩ a b w W0) := Lib.hid (by rw [hZ, hY, hX, hW0]; exact KB.made w _ _ _)
  have HEQ := Lib.hid hW0
  have HXQ := Lib.hid hX
  have HYQ := Lib.hid hY
  have HZQ := Lib.hid hZ
  clear hw hIs hSh hX hY hZ hW0
  go_enter Tryd.func7, Tryd.ntmps7
  go_wp2_with fail
  rw [← HEQ.out, ← HXQ.out, ← HYQ.out, ← HZQ.out]
  refine (HSh.out _ (HT.out.below HKB.out.2.2.2.1)).mono ?_
  rintro e w' ⟨rfl, rfl⟩
  obtain ⟨⟨g0, g1, g2, g3, g4, g5, g6, g7, g8, g9⟩, gY, gZ, -⟩ := HKB.out
  go_wp2_with fail
  refine (HIs.out _ (HT.out.below HKB.out.2.2.2.1)).mono ?_
  rintro e w1 ⟨rfl, hb1⟩
  replace HKB := Lib.hid (HKB.out.below hb1)
  clear hb1 g0 g1 g2 g3 g4 g5 g6 g7 g8 g9 gY gZ
  have HL : Hid (Below w.heap.size w w1) := Lib.hid HKB.out.2.2.2.1
  obtain ⟨⟨k0, k1, k2, k3, k4, k5, k6, k7, k8, k9⟩, kY, kZ, -⟩ := HKB.out
  go_wp2_with (go_at_call 11; ((with_reducible refine (HC.out _ (HT.out.below HL.out)).mono ?_); rintro e w2 ⟨rfl, hb2⟩; replace HL := Lib.hid (after HL.out hb2); clear hb2))
  go_ret
  exact ⟨rfl, HL.out⟩

set_option maxRecDepth 100000 in
set_option maxHeartbeats 8000000 in
theorem renno_5 (o d n m ra x k h t c a b s : Int) (w : World) (hw : Tab5 w) (f0 : 0 ≤ a) (f1 : a ≤ 30) (f2 : 0 ≤ b) (f3 : 30 < b)
    (hIs : ∀ w, Tab5 w → Calls Tryd.prog 12 #[inV ⟨o, d, n, m, ra, x, k, h, t, c⟩] w (RetB (.bool true) w)) (hSh : ∀ w, Tab5 w → Calls Tryd.prog 19 #[.int .i64 o] w (Ret (.int .i64 s) w)) :
    Calls Tryd.prog 7 #[inV ⟨o, d, n, m, ra, x, k, h, t, c⟩, .int .i64 a, .int .i64 b] w (RetB (.bool true) w) := by
  have HT := Lib.hid hw
  have HC : Hid (∀ w, Tab5 w → Calls Tryd.prog 11 #[] w (RetB (.bool true) w)) := Lib.hid fun w h => shaped_any w h
  have HIs := Lib.hid hIs
  have HSh := Lib.hid hSh
  obtain ⟨X, hX⟩ : ∃ X, X = w.heap.size := ⟨_, rfl⟩
  obtain ⟨Y, hY⟩ : ∃ Y, Y = X + 1 := ⟨_, rfl⟩
  obtain ⟨Z, hZ⟩ : ∃ Z, Z = Y + 1 := ⟨_, rfl⟩
  obtain ⟨W0, hW0⟩ : ∃ W0, W0 = ((w.alloc (.cells (inC ⟨o, d, n, m, ra, x, k, h, t, c⟩) 24)).alloc (.cells #[.int .i64 a] 3)).alloc (.cells #[.int .i64 b] 3) := ⟨_, rfl⟩
  have HKB : Hid (KB X Y Z ⟨o, d, n, m, ra, x, k, h, t, c⟩ a b w W0) := Lib.hid (by rw [hZ, hY, hX, hW0]; exact KB.made w _ _ _)
  have HEQ := Lib.hid hW0
  have HXQ := Lib.hid hX
  have HYQ := Lib.hid hY
  have HZQ := Lib.hid hZ
  clear hw hIs hSh hX hY hZ hW0
  go_enter Tryd.func7, Tryd.ntmps7
  go_wp2_with fail
  rw [← HEQ.out, ← HXQ.out, ← HYQ.out, ← HZQ.out]
  refine (HSh.out _ (HT.out.below HKB.out.2.2.2.1)).mono ?_
  rintro e w' ⟨rfl, rfl⟩
  obtain ⟨⟨g0, g1, g2, g3, g4, g5, g6, g7, g8, g9⟩, gY, gZ, -⟩ := HKB.out
  go_wp2_with fail
  refine (HIs.out _ (HT.out.below HKB.out.2.2.2.1)).mono ?_
  rintro e w1 ⟨rfl, hb1⟩
  replace HKB := Lib.hid (HKB.out.below hb1)
  clear hb1 g0 g1 g2 g3 g4 g5 g6 g7 g8 g9 gY gZ
  have HL : Hid (Below w.heap.size w w1) := Lib.hid HKB.out.2.2.2.1
  obtain ⟨⟨k0, k1, k2, k3, k4, k5, k6, k7, k8, k9⟩, kY, kZ, -⟩ := HKB.out
  go_wp2_with (go_at_call 11; ((with_reducible refine (HC.out _ (HT.out.below HL.out)).mono ?_); rintro e w2 ⟨rfl, hb2⟩; replace HL := Lib.hid (after HL.out hb2); clear hb2))
  go_ret
  exact ⟨rfl, HL.out⟩

set_option maxRecDepth 100000 in
set_option maxHeartbeats 8000000 in
theorem renno_6 (o d n m ra x k h t c a b s : Int) (w : World) (hw : Tab5 w) (f0 : 0 ≤ a) (f1 : a ≤ 30) (f2 : 0 ≤ b) (f3 : b ≤ 30) (f4 : (o == 37) = true)
    (hIs : ∀ w, Tab5 w → Calls Tryd.prog 12 #[inV ⟨o, d, n, m, ra, x, k, h, t, c⟩] w (RetB (.bool true) w)) (hSh : ∀ w, Tab5 w → Calls Tryd.prog 19 #[.int .i64 o] w (Ret (.int .i64 s) w)) :
    Calls Tryd.prog 7 #[inV ⟨o, d, n, m, ra, x, k, h, t, c⟩, .int .i64 a, .int .i64 b] w (RetB (.bool true) w) := by
  have HT := Lib.hid hw
  have HC : Hid (∀ w, Tab5 w → Calls Tryd.prog 11 #[] w (RetB (.bool true) w)) := Lib.hid fun w h => shaped_any w h
  have HIs := Lib.hid hIs
  have HSh := Lib.hid hSh
  obtain ⟨X, hX⟩ : ∃ X, X = w.heap.size := ⟨_, rfl⟩
  obtain ⟨Y, hY⟩ : ∃ Y, Y = X + 1 := ⟨_, rfl⟩
  obtain ⟨Z, hZ⟩ : ∃ Z, Z = Y + 1 := ⟨_, rfl⟩
  obtain ⟨W0, hW0⟩ : ∃ W0, W0 = ((w.alloc (.cells (inC ⟨o, d, n, m, ra, x, k, h, t, c⟩) 24)).alloc (.cells #[.int .i64 a] 3)).alloc (.cells #[.int .i64 b] 3) := ⟨_, rfl⟩
  have HKB : Hid (KB X Y Z ⟨o, d, n, m, ra, x, k, h, t, c⟩ a b w W0) := Lib.hid (by rw [hZ, hY, hX, hW0]; exact KB.made w _ _ _)
  have HEQ := Lib.hid hW0
  have HXQ := Lib.hid hX
  have HYQ := Lib.hid hY
  have HZQ := Lib.hid hZ
  clear hw hIs hSh hX hY hZ hW0
  go_enter Tryd.func7, Tryd.ntmps7
  go_wp2_with fail
  rw [← HEQ.out, ← HXQ.out, ← HYQ.out, ← HZQ.out]
  refine (HSh.out _ (HT.out.below HKB.out.2.2.2.1)).mono ?_
  rintro e w' ⟨rfl, rfl⟩
  obtain ⟨⟨g0, g1, g2, g3, g4, g5, g6, g7, g8, g9⟩, gY, gZ, -⟩ := HKB.out
  go_wp2_with fail
  refine (HIs.out _ (HT.out.below HKB.out.2.2.2.1)).mono ?_
  rintro e w1 ⟨rfl, hb1⟩
  replace HKB := Lib.hid (HKB.out.below hb1)
  clear hb1 g0 g1 g2 g3 g4 g5 g6 g7 g8 g9 gY gZ
  have HL : Hid (Below w.heap.size w w1) := Lib.hid HKB.out.2.2.2.1
  obtain ⟨⟨k0, k1, k2, k3, k4, k5, k6, k7, k8, k9⟩, kY, kZ, -⟩ := HKB.out
  go_wp2_with (go_at_call 11; ((with_reducible refine (HC.out _ (HT.out.below HL.out)).mono ?_); rintro e w2 ⟨rfl, hb2⟩; replace HL := Lib.hid (after HL.out hb2); clear hb2))
  go_ret
  exact ⟨rfl, HL.out⟩

set_option maxRecDepth 100000 in
set_option maxHeartbeats 8000000 in
theorem renno_7 (o d n m ra x k h t c a b s : Int) (w : World) (hw : Tab5 w) (f0 : 0 ≤ a) (f1 : a ≤ 30) (f2 : 0 ≤ b) (f3 : b ≤ 30) (f4 : (o == 37) = false) (f5 : (o == 30) = true)
    (hIs : ∀ w, Tab5 w → Calls Tryd.prog 12 #[inV ⟨o, d, n, m, ra, x, k, h, t, c⟩] w (RetB (.bool true) w)) (hSh : ∀ w, Tab5 w → Calls Tryd.prog 19 #[.int .i64 o] w (Ret (.int .i64 s) w)) :
    Calls Tryd.prog 7 #[inV ⟨o, d, n, m, ra, x, k, h, t, c⟩, .int .i64 a, .int .i64 b] w (RetB (.bool true) w) := by
  have HT := Lib.hid hw
  have HC : Hid (∀ w, Tab5 w → Calls Tryd.prog 11 #[] w (RetB (.bool true) w)) := Lib.hid fun w h => shaped_any w h
  have HIs := Lib.hid hIs
  have HSh := Lib.hid hSh
  obtain ⟨X, hX⟩ : ∃ X, X = w.heap.size := ⟨_, rfl⟩
  obtain ⟨Y, hY⟩ : ∃ Y, Y = X + 1 := ⟨_, rfl⟩
  obtain ⟨Z, hZ⟩ : ∃ Z, Z = Y + 1 := ⟨_, rfl⟩
  obtain ⟨W0, hW0⟩ : ∃ W0, W0 = ((w.alloc (.cells (inC ⟨o, d, n, m, ra, x, k, h, t, c⟩) 24)).alloc (.cells #[.int .i64 a] 3)).alloc (.cells #[.int .i64 b] 3) := ⟨_, rfl⟩
  have HKB : Hid (KB X Y Z ⟨o, d, n, m, ra, x, k, h, t, c⟩ a b w W0) := Lib.hid (by rw [hZ, hY, hX, hW0]; exact KB.made w _ _ _)
  have HEQ := Lib.hid hW0
  have HXQ := Lib.hid hX
  have HYQ := Lib.hid hY
  have HZQ := Lib.hid hZ
  clear hw hIs hSh hX hY hZ hW0
  go_enter Tryd.func7, Tryd.ntmps7
  go_wp2_with fail
  rw [← HEQ.out, ← HXQ.out, ← HYQ.out, ← HZQ.out]
  refine (HSh.out _ (HT.out.below HKB.out.2.2.2.1)).mono ?_
  rintro e w' ⟨rfl, rfl⟩
  obtain ⟨⟨g0, g1, g2, g3, g4, g5, g6, g7, g8, g9⟩, gY, gZ, -⟩ := HKB.out
  go_wp2_with fail
  refine (HIs.out _ (HT.out.below HKB.out.2.2.2.1)).mono ?_
  rintro e w1 ⟨rfl, hb1⟩
  replace HKB := Lib.hid (HKB.out.below hb1)
  clear hb1 g0 g1 g2 g3 g4 g5 g6 g7 g8 g9 gY gZ
  have HL : Hid (Below w.heap.size w w1) := Lib.hid HKB.out.2.2.2.1
  obtain ⟨⟨k0, k1, k2, k3, k4, k5, k6, k7, k8, k9⟩, kY, kZ, -⟩ := HKB.out
  go_wp2_with (go_at_call 11; ((with_reducible refine (HC.out _ (HT.out.below HL.out)).mono ?_); rintro e w2 ⟨rfl, hb2⟩; replace HL := Lib.hid (after HL.out hb2); clear hb2))
  go_ret
  exact ⟨rfl, HL.out⟩

set_option maxRecDepth 100000 in
set_option maxHeartbeats 8000000 in
theorem renno_8 (o d n m ra x k h t c a b s : Int) (w : World) (hw : Tab5 w) (f0 : 0 ≤ a) (f1 : a ≤ 30) (f2 : 0 ≤ b) (f3 : b ≤ 30) (f4 : (o == 37) = false) (f5 : (o == 30) = false) (f6 : (o == 35) = true)
    (hIs : ∀ w, Tab5 w → Calls Tryd.prog 12 #[inV ⟨o, d, n, m, ra, x, k, h, t, c⟩] w (RetB (.bool true) w)) (hSh : ∀ w, Tab5 w → Calls Tryd.prog 19 #[.int .i64 o] w (Ret (.int .i64 s) w)) :
    Calls Tryd.prog 7 #[inV ⟨o, d, n, m, ra, x, k, h, t, c⟩, .int .i64 a, .int .i64 b] w (RetB (.bool true) w) := by
  have HT := Lib.hid hw
  have HC : Hid (∀ w, Tab5 w → Calls Tryd.prog 11 #[] w (RetB (.bool true) w)) := Lib.hid fun w h => shaped_any w h
  have HIs := Lib.hid hIs
  have HSh := Lib.hid hSh
  obtain ⟨X, hX⟩ : ∃ X, X = w.heap.size := ⟨_, rfl⟩
  obtain ⟨Y, hY⟩ : ∃ Y, Y = X + 1 := ⟨_, rfl⟩
  obtain ⟨Z, hZ⟩ : ∃ Z, Z = Y + 1 := ⟨_, rfl⟩
  obtain ⟨W0, hW0⟩ : ∃ W0, W0 = ((w.alloc (.cells (inC ⟨o, d, n, m, ra, x, k, h, t, c⟩) 24)).alloc (.cells #[.int .i64 a] 3)).alloc (.cells #[.int .i64 b] 3) := ⟨_, rfl⟩
  have HKB : Hid (KB X Y Z ⟨o, d, n, m, ra, x, k, h, t, c⟩ a b w W0) := Lib.hid (by rw [hZ, hY, hX, hW0]; exact KB.made w _ _ _)
  have HEQ := Lib.hid hW0
  have HXQ := Lib.hid hX
  have HYQ := Lib.hid hY
  have HZQ := Lib.hid hZ
  clear hw hIs hSh hX hY hZ hW0
  go_enter Tryd.func7, Tryd.ntmps7
  go_wp2_with fail
  rw [← HEQ.out, ← HXQ.out, ← HYQ.out, ← HZQ.out]
  refine (HSh.out _ (HT.out.below HKB.out.2.2.2.1)).mono ?_
  rintro e w' ⟨rfl, rfl⟩
  obtain ⟨⟨g0, g1, g2, g3, g4, g5, g6, g7, g8, g9⟩, gY, gZ, -⟩ := HKB.out
  go_wp2_with fail
  refine (HIs.out _ (HT.out.below HKB.out.2.2.2.1)).mono ?_
  rintro e w1 ⟨rfl, hb1⟩
  replace HKB := Lib.hid (HKB.out.below hb1)
  clear hb1 g0 g1 g2 g3 g4 g5 g6 g7 g8 g9 gY gZ
  have HL : Hid (Below w.heap.size w w1) := Lib.hid HKB.out.2.2.2.1
  obtain ⟨⟨k0, k1, k2, k3, k4, k5, k6, k7, k8, k9⟩, kY, kZ, -⟩ := HKB.out
  go_wp2_with (go_at_call 11; ((with_reducible refine (HC.out _ (HT.out.below HL.out)).mono ?_); rintro e w2 ⟨rfl, hb2⟩; replace HL := Lib.hid (after HL.out hb2); clear hb2))
  go_ret
  exact ⟨rfl, HL.out⟩

end Go.Proofs.YtjnmkelppjcofaaDoor
