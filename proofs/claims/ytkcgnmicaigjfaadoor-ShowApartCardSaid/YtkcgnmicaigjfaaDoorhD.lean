/- inst: Reads, case by case. -/
import Derived.Test.YtkcgnmicaigjfaaDoorhB
namespace Go.Proofs.YtkcgnmicaigjfaaDoor
set_option linter.unusedVariables false
set_option linter.unusedSimpArgs false
open Go.ChangeShapes Go.WideShapes Go.Deep Go.RowKit

set_option maxRecDepth 100000 in
set_option maxHeartbeats 4000000 in
theorem reads_FFF_3 (x k h t c : Int) (d n m a : Nat) (s : Int) (st : Bool) (w : World) (hw : Tab4 w) (hn : n < 32) (hm : m < 32) (ha : a < 32) (hd : d < 32) (q6 : (s == 6) = false)
    (hIs : ∀ w, Tab4 w → Calls Tryd.prog 9 #[inV ⟨3, d, n, m, a, x, k, h, t, c⟩] w (RetB (.bool true) w)) (hSh : ∀ w, Tab4 w → Calls Tryd.prog 14 #[.int .i64 3] w (Ret (.int .i64 s) w))
    (hN : ∀ w, Calls Tryd.prog 35 #[.int .i64 s] w (Ret (.bool false) w)) (hM : ∀ w, Calls Tryd.prog 36 #[.int .i64 s] w (Ret (.bool false) w)) (hSt : ∀ w, Calls Tryd.prog 70 #[.int .i64 s] w (Ret (.bool st) w)) :
    Calls Tryd.prog 54 #[inV ⟨3, d, n, m, a, x, k, h, t, c⟩] w (RetL (riseL (markF (fun _ => false) d false)) w) := by
  have HIs := Lib.hid hIs
  have HSh := Lib.hid hSh
  have HN := Lib.hid hN
  have HM := Lib.hid hM
  have HSt := Lib.hid hSt
  have HT := Lib.hid hw
  have HZ := Lib.hid zero_bools
  have HBA := Lib.hid ((Below.refl w.heap.size w).alloc (Nat.le_refl _) (.cells (inC ⟨3, d, n, m, a, x, k, h, t, c⟩) 24))
  clear hIs hSh hN hM hSt hw
  go_enter Tryd.func54, Tryd.ntmps54
  go_wp2_with fail
  refine (HIs.out _ (HT.out.below HBA.out)).mono ?_
  rintro e w1 ⟨rfl, hb⟩
  have hb1 := after HBA.out hb
  have hR1 : w1.heap[w.heap.size]? = some (.cells (inC ⟨3, d, n, m, a, x, k, h, t, c⟩) 24 (0, 0)) := (hb.block w.heap.size (by simp)).trans (MapKept.heap_alloc w _).1
  have hs1 := hb.size
  rw [World.size_alloc] at hs1
  obtain ⟨W1, hW1⟩ : ∃ W1, W1 = w1.alloc (.cells (boolsL fun _ => false).toArray 105) := ⟨_, rfl⟩
  have HRS : Hid (RS w.heap.size w1.heap.size ⟨3, d, n, m, a, x, k, h, t, c⟩ (fun _ => false) w W1) := Lib.hid (by
    rw [hW1]
    exact ⟨(Below.heap_alloc _ _ _ (by omega)).trans hR1, (MapKept.heap_alloc w1 _).1, hb1.alloc hb1.size _, Nat.le_refl _, by omega⟩)
  have HTW : Hid (Tab4 W1) := Lib.hid (HT.out.below HRS.out.2.2.1)
  have g0 : (w1.alloc (.cells (boolsL fun _ => false).toArray 105)).cell? ⟨w.heap.size, 0, none⟩ = some (.int .i64 3) := by rw [← hW1]; exact HRS.out.ten.1
  have HW1 := Lib.hid hW1
  clear hb hb1 hR1 hs1 hW1
  have HZ2 := HZ.out
  go_wp2_with fail
  rw [← HW1.out]
  obtain ⟨R, hR⟩ : ∃ R, R = w.heap.size := ⟨_, rfl⟩
  obtain ⟨B, hB⟩ : ∃ B, B = w1.heap.size := ⟨_, rfl⟩
  rw [← hR, ← hB] at HRS ⊢
  clear HZ2 g0 hR hB HW1
  obtain ⟨g0, g1, g2, g3, g4, g5, g6, g7, g8, g9⟩ := HRS.out.ten
  refine (HSh.out _ HTW.out).mono ?_
  rintro e w' ⟨rfl, rfl⟩
  go_wp2_with (first | (refine wpList_load_mid rfl 105 _ rfl B 0 rfl (boolsL _) _ (range_bools _ _ _ _ _ HRS.out.2.1) Tryd.underlying105 rfl (size_bools _) ?_) | (go_at_call 35; ((with_reducible refine (HN.out _).mono ?_); rintro e w' ⟨rfl, rfl⟩)) | (go_at_call 36; ((with_reducible refine (HM.out _).mono ?_); rintro e w' ⟨rfl, rfl⟩)) | (go_at_call 69; refine (note_any _ _ _ _ _ (by omega) HRS.out.2.1).mono ?_; rintro e w' ⟨rfl, hB', hg'⟩; replace HRS := Lib.hid (HRS.out.note hB' hg'); clear hB' hg'; obtain ⟨g0, g1, g2, g3, g4, g5, g6, g7, g8, g9⟩ := HRS.out.ten) | (go_at_call 71; refine (rising_any _ _).mono ?_; rintro e w2 ⟨a', c', rfl, hsl, hnil, hb2⟩))
  go_ret
  exact ⟨a', c', rfl, hsl, hnil, after HRS.out.2.2.1 hb2⟩

set_option maxRecDepth 100000 in
set_option maxHeartbeats 4000000 in
theorem reads_FFF_32 (x k h t c : Int) (d n m a : Nat) (s : Int) (st : Bool) (w : World) (hw : Tab4 w) (hn : n < 32) (hm : m < 32) (ha : a < 32) (hd : d < 32) (q6 : (s == 6) = false)
    (hIs : ∀ w, Tab4 w → Calls Tryd.prog 9 #[inV ⟨32, d, n, m, a, x, k, h, t, c⟩] w (RetB (.bool true) w)) (hSh : ∀ w, Tab4 w → Calls Tryd.prog 14 #[.int .i64 32] w (Ret (.int .i64 s) w))
    (hN : ∀ w, Calls Tryd.prog 35 #[.int .i64 s] w (Ret (.bool false) w)) (hM : ∀ w, Calls Tryd.prog 36 #[.int .i64 s] w (Ret (.bool false) w)) (hSt : ∀ w, Calls Tryd.prog 70 #[.int .i64 s] w (Ret (.bool st) w)) :
    Calls Tryd.prog 54 #[inV ⟨32, d, n, m, a, x, k, h, t, c⟩] w (RetL (riseL (markF (fun _ => false) d false)) w) := by
  have HIs := Lib.hid hIs
  have HSh := Lib.hid hSh
  have HN := Lib.hid hN
  have HM := Lib.hid hM
  have HSt := Lib.hid hSt
  have HT := Lib.hid hw
  have HZ := Lib.hid zero_bools
  have HBA := Lib.hid ((Below.refl w.heap.size w).alloc (Nat.le_refl _) (.cells (inC ⟨32, d, n, m, a, x, k, h, t, c⟩) 24))
  clear hIs hSh hN hM hSt hw
  go_enter Tryd.func54, Tryd.ntmps54
  go_wp2_with fail
  refine (HIs.out _ (HT.out.below HBA.out)).mono ?_
  rintro e w1 ⟨rfl, hb⟩
  have hb1 := after HBA.out hb
  have hR1 : w1.heap[w.heap.size]? = some (.cells (inC ⟨32, d, n, m, a, x, k, h, t, c⟩) 24 (0, 0)) := (hb.block w.heap.size (by simp)).trans (MapKept.heap_alloc w _).1
  have hs1 := hb.size
  rw [World.size_alloc] at hs1
  obtain ⟨W1, hW1⟩ : ∃ W1, W1 = w1.alloc (.cells (boolsL fun _ => false).toArray 105) := ⟨_, rfl⟩
  have HRS : Hid (RS w.heap.size w1.heap.size ⟨32, d, n, m, a, x, k, h, t, c⟩ (fun _ => false) w W1) := Lib.hid (by
    rw [hW1]
    exact ⟨(Below.heap_alloc _ _ _ (by omega)).trans hR1, (MapKept.heap_alloc w1 _).1, hb1.alloc hb1.size _, Nat.le_refl _, by omega⟩)
  have HTW : Hid (Tab4 W1) := Lib.hid (HT.out.below HRS.out.2.2.1)
  have g0 : (w1.alloc (.cells (boolsL fun _ => false).toArray 105)).cell? ⟨w.heap.size, 0, none⟩ = some (.int .i64 32) := by rw [← hW1]; exact HRS.out.ten.1
  have HW1 := Lib.hid hW1
  clear hb hb1 hR1 hs1 hW1
  have HZ2 := HZ.out
  go_wp2_with fail
  rw [← HW1.out]
  obtain ⟨R, hR⟩ : ∃ R, R = w.heap.size := ⟨_, rfl⟩
  obtain ⟨B, hB⟩ : ∃ B, B = w1.heap.size := ⟨_, rfl⟩
  rw [← hR, ← hB] at HRS ⊢
  clear HZ2 g0 hR hB HW1
  obtain ⟨g0, g1, g2, g3, g4, g5, g6, g7, g8, g9⟩ := HRS.out.ten
  refine (HSh.out _ HTW.out).mono ?_
  rintro e w' ⟨rfl, rfl⟩
  go_wp2_with (first | (refine wpList_load_mid rfl 105 _ rfl B 0 rfl (boolsL _) _ (range_bools _ _ _ _ _ HRS.out.2.1) Tryd.underlying105 rfl (size_bools _) ?_) | (go_at_call 35; ((with_reducible refine (HN.out _).mono ?_); rintro e w' ⟨rfl, rfl⟩)) | (go_at_call 36; ((with_reducible refine (HM.out _).mono ?_); rintro e w' ⟨rfl, rfl⟩)) | (go_at_call 69; refine (note_any _ _ _ _ _ (by omega) HRS.out.2.1).mono ?_; rintro e w' ⟨rfl, hB', hg'⟩; replace HRS := Lib.hid (HRS.out.note hB' hg'); clear hB' hg'; obtain ⟨g0, g1, g2, g3, g4, g5, g6, g7, g8, g9⟩ := HRS.out.ten) | (go_at_call 71; refine (rising_any _ _).mono ?_; rintro e w2 ⟨a', c', rfl, hsl, hnil, hb2⟩))
  go_ret
  exact ⟨a', c', rfl, hsl, hnil, after HRS.out.2.2.1 hb2⟩

set_option maxRecDepth 100000 in
set_option maxHeartbeats 4000000 in
theorem reads_FFF_33 (x k h t c : Int) (d n m a : Nat) (s : Int) (st : Bool) (w : World) (hw : Tab4 w) (hn : n < 32) (hm : m < 32) (ha : a < 32) (hd : d < 32) (q6 : (s == 6) = false)
    (hIs : ∀ w, Tab4 w → Calls Tryd.prog 9 #[inV ⟨33, d, n, m, a, x, k, h, t, c⟩] w (RetB (.bool true) w)) (hSh : ∀ w, Tab4 w → Calls Tryd.prog 14 #[.int .i64 33] w (Ret (.int .i64 s) w))
    (hN : ∀ w, Calls Tryd.prog 35 #[.int .i64 s] w (Ret (.bool false) w)) (hM : ∀ w, Calls Tryd.prog 36 #[.int .i64 s] w (Ret (.bool false) w)) (hSt : ∀ w, Calls Tryd.prog 70 #[.int .i64 s] w (Ret (.bool st) w)) :
    Calls Tryd.prog 54 #[inV ⟨33, d, n, m, a, x, k, h, t, c⟩] w (RetL (riseL (markF (fun _ => false) d false)) w) := by
  have HIs := Lib.hid hIs
  have HSh := Lib.hid hSh
  have HN := Lib.hid hN
  have HM := Lib.hid hM
  have HSt := Lib.hid hSt
  have HT := Lib.hid hw
  have HZ := Lib.hid zero_bools
  have HBA := Lib.hid ((Below.refl w.heap.size w).alloc (Nat.le_refl _) (.cells (inC ⟨33, d, n, m, a, x, k, h, t, c⟩) 24))
  clear hIs hSh hN hM hSt hw
  go_enter Tryd.func54, Tryd.ntmps54
  go_wp2_with fail
  refine (HIs.out _ (HT.out.below HBA.out)).mono ?_
  rintro e w1 ⟨rfl, hb⟩
  have hb1 := after HBA.out hb
  have hR1 : w1.heap[w.heap.size]? = some (.cells (inC ⟨33, d, n, m, a, x, k, h, t, c⟩) 24 (0, 0)) := (hb.block w.heap.size (by simp)).trans (MapKept.heap_alloc w _).1
  have hs1 := hb.size
  rw [World.size_alloc] at hs1
  obtain ⟨W1, hW1⟩ : ∃ W1, W1 = w1.alloc (.cells (boolsL fun _ => false).toArray 105) := ⟨_, rfl⟩
  have HRS : Hid (RS w.heap.size w1.heap.size ⟨33, d, n, m, a, x, k, h, t, c⟩ (fun _ => false) w W1) := Lib.hid (by
    rw [hW1]
    exact ⟨(Below.heap_alloc _ _ _ (by omega)).trans hR1, (MapKept.heap_alloc w1 _).1, hb1.alloc hb1.size _, Nat.le_refl _, by omega⟩)
  have HTW : Hid (Tab4 W1) := Lib.hid (HT.out.below HRS.out.2.2.1)
  have g0 : (w1.alloc (.cells (boolsL fun _ => false).toArray 105)).cell? ⟨w.heap.size, 0, none⟩ = some (.int .i64 33) := by rw [← hW1]; exact HRS.out.ten.1
  have HW1 := Lib.hid hW1
  clear hb hb1 hR1 hs1 hW1
  have HZ2 := HZ.out
  go_wp2_with fail
  rw [← HW1.out]
  obtain ⟨R, hR⟩ : ∃ R, R = w.heap.size := ⟨_, rfl⟩
  obtain ⟨B, hB⟩ : ∃ B, B = w1.heap.size := ⟨_, rfl⟩
  rw [← hR, ← hB] at HRS ⊢
  clear HZ2 g0 hR hB HW1
  obtain ⟨g0, g1, g2, g3, g4, g5, g6, g7, g8, g9⟩ := HRS.out.ten
  refine (HSh.out _ HTW.out).mono ?_
  rintro e w' ⟨rfl, rfl⟩
  go_wp2_with (first | (refine wpList_load_mid rfl 105 _ rfl B 0 rfl (boolsL _) _ (range_bools _ _ _ _ _ HRS.out.2.1) Tryd.underlying105 rfl (size_bools _) ?_) | (go_at_call 35; ((with_reducible refine (HN.out _).mono ?_); rintro e w' ⟨rfl, rfl⟩)) | (go_at_call 36; ((with_reducible refine (HM.out _).mono ?_); rintro e w' ⟨rfl, rfl⟩)) | (go_at_call 69; refine (note_any _ _ _ _ _ (by omega) HRS.out.2.1).mono ?_; rintro e w' ⟨rfl, hB', hg'⟩; replace HRS := Lib.hid (HRS.out.note hB' hg'); clear hB' hg'; obtain ⟨g0, g1, g2, g3, g4, g5, g6, g7, g8, g9⟩ := HRS.out.ten) | (go_at_call 71; refine (rising_any _ _).mono ?_; rintro e w2 ⟨a', c', rfl, hsl, hnil, hb2⟩))
  go_ret
  exact ⟨a', c', rfl, hsl, hnil, after HRS.out.2.2.1 hb2⟩

set_option maxRecDepth 100000 in
set_option maxHeartbeats 4000000 in
theorem reads_FFF_37 (x k h t c : Int) (d n m a : Nat) (s : Int) (st : Bool) (w : World) (hw : Tab4 w) (hn : n < 32) (hm : m < 32) (ha : a < 32) (hd : d < 32) (q6 : (s == 6) = false)
    (hIs : ∀ w, Tab4 w → Calls Tryd.prog 9 #[inV ⟨37, d, n, m, a, x, k, h, t, c⟩] w (RetB (.bool true) w)) (hSh : ∀ w, Tab4 w → Calls Tryd.prog 14 #[.int .i64 37] w (Ret (.int .i64 s) w))
    (hN : ∀ w, Calls Tryd.prog 35 #[.int .i64 s] w (Ret (.bool false) w)) (hM : ∀ w, Calls Tryd.prog 36 #[.int .i64 s] w (Ret (.bool false) w)) (hSt : ∀ w, Calls Tryd.prog 70 #[.int .i64 s] w (Ret (.bool st) w)) :
    Calls Tryd.prog 54 #[inV ⟨37, d, n, m, a, x, k, h, t, c⟩] w (RetL (riseL (markF (fun _ => false) 0 false)) w) := by
  have HIs := Lib.hid hIs
  have HSh := Lib.hid hSh
  have HN := Lib.hid hN
  have HM := Lib.hid hM
  have HSt := Lib.hid hSt
  have HT := Lib.hid hw
  have HZ := Lib.hid zero_bools
  have HBA := Lib.hid ((Below.refl w.heap.size w).alloc (Nat.le_refl _) (.cells (inC ⟨37, d, n, m, a, x, k, h, t, c⟩) 24))
  clear hIs hSh hN hM hSt hw
  go_enter Tryd.func54, Tryd.ntmps54
  go_wp2_with fail
  refine (HIs.out _ (HT.out.below HBA.out)).mono ?_
  rintro e w1 ⟨rfl, hb⟩
  have hb1 := after HBA.out hb
  have hR1 : w1.heap[w.heap.size]? = some (.cells (inC ⟨37, d, n, m, a, x, k, h, t, c⟩) 24 (0, 0)) := (hb.block w.heap.size (by simp)).trans (MapKept.heap_alloc w _).1
  have hs1 := hb.size
  rw [World.size_alloc] at hs1
  obtain ⟨W1, hW1⟩ : ∃ W1, W1 = w1.alloc (.cells (boolsL fun _ => false).toArray 105) := ⟨_, rfl⟩
  have HRS : Hid (RS w.heap.size w1.heap.size ⟨37, d, n, m, a, x, k, h, t, c⟩ (fun _ => false) w W1) := Lib.hid (by
    rw [hW1]
    exact ⟨(Below.heap_alloc _ _ _ (by omega)).trans hR1, (MapKept.heap_alloc w1 _).1, hb1.alloc hb1.size _, Nat.le_refl _, by omega⟩)
  have HTW : Hid (Tab4 W1) := Lib.hid (HT.out.below HRS.out.2.2.1)
  have g0 : (w1.alloc (.cells (boolsL fun _ => false).toArray 105)).cell? ⟨w.heap.size, 0, none⟩ = some (.int .i64 37) := by rw [← hW1]; exact HRS.out.ten.1
  have HW1 := Lib.hid hW1
  clear hb hb1 hR1 hs1 hW1
  have HZ2 := HZ.out
  go_wp2_with fail
  rw [← HW1.out]
  obtain ⟨R, hR⟩ : ∃ R, R = w.heap.size := ⟨_, rfl⟩
  obtain ⟨B, hB⟩ : ∃ B, B = w1.heap.size := ⟨_, rfl⟩
  rw [← hR, ← hB] at HRS ⊢
  clear HZ2 g0 hR hB HW1
  obtain ⟨g0, g1, g2, g3, g4, g5, g6, g7, g8, g9⟩ := HRS.out.ten
  refine (HSh.out _ HTW.out).mono ?_
  rintro e w' ⟨rfl, rfl⟩
  go_wp2_with (first | (refine wpList_load_mid rfl 105 _ rfl B 0 rfl (boolsL _) _ (range_bools _ _ _ _ _ HRS.out.2.1) Tryd.underlying105 rfl (size_bools _) ?_) | (go_at_call 35; ((with_reducible refine (HN.out _).mono ?_); rintro e w' ⟨rfl, rfl⟩)) | (go_at_call 36; ((with_reducible refine (HM.out _).mono ?_); rintro e w' ⟨rfl, rfl⟩)) | (go_at_call 69; refine (note_zero _ _ _ _ HRS.out.2.1).mono ?_; rintro e w' ⟨rfl, hB', hg'⟩; replace HRS := Lib.hid (HRS.out.note hB' hg'); clear hB' hg'; obtain ⟨g0, g1, g2, g3, g4, g5, g6, g7, g8, g9⟩ := HRS.out.ten) | (go_at_call 71; refine (rising_any _ _).mono ?_; rintro e w2 ⟨a', c', rfl, hsl, hnil, hb2⟩))
  go_ret
  exact ⟨a', c', rfl, hsl, hnil, after HRS.out.2.2.1 hb2⟩

set_option maxRecDepth 100000 in
set_option maxHeartbeats 4000000 in
theorem reads_FFF_o (o : Int) (x k h t c : Int) (d n m a : Nat) (s : Int) (st : Bool) (w : World) (hw : Tab4 w) (q3 : (o == 3) = false) (q23 : (o == 23) = false) (q25 : (o == 25) = false) (q32 : (o == 32) = false) (q33 : (o == 33) = false) (q37 : (o == 37) = false) (hn : n < 32) (hm : m < 32) (ha : a < 32) (hd : d < 32) (q6 : (s == 6) = false)
    (hIs : ∀ w, Tab4 w → Calls Tryd.prog 9 #[inV ⟨o, d, n, m, a, x, k, h, t, c⟩] w (RetB (.bool true) w)) (hSh : ∀ w, Tab4 w → Calls Tryd.prog 14 #[.int .i64 o] w (Ret (.int .i64 s) w))
    (hN : ∀ w, Calls Tryd.prog 35 #[.int .i64 s] w (Ret (.bool false) w)) (hM : ∀ w, Calls Tryd.prog 36 #[.int .i64 s] w (Ret (.bool false) w)) (hSt : ∀ w, Calls Tryd.prog 70 #[.int .i64 s] w (Ret (.bool st) w)) :
    Calls Tryd.prog 54 #[inV ⟨o, d, n, m, a, x, k, h, t, c⟩] w (RetL (riseL (fun _ => false)) w) := by
  have HIs := Lib.hid hIs
  have HSh := Lib.hid hSh
  have HN := Lib.hid hN
  have HM := Lib.hid hM
  have HSt := Lib.hid hSt
  have HT := Lib.hid hw
  have HZ := Lib.hid zero_bools
  have HBA := Lib.hid ((Below.refl w.heap.size w).alloc (Nat.le_refl _) (.cells (inC ⟨o, d, n, m, a, x, k, h, t, c⟩) 24))
  clear hIs hSh hN hM hSt hw
  go_enter Tryd.func54, Tryd.ntmps54
  go_wp2_with fail
  refine (HIs.out _ (HT.out.below HBA.out)).mono ?_
  rintro e w1 ⟨rfl, hb⟩
  have hb1 := after HBA.out hb
  have hR1 : w1.heap[w.heap.size]? = some (.cells (inC ⟨o, d, n, m, a, x, k, h, t, c⟩) 24 (0, 0)) := (hb.block w.heap.size (by simp)).trans (MapKept.heap_alloc w _).1
  have hs1 := hb.size
  rw [World.size_alloc] at hs1
  obtain ⟨W1, hW1⟩ : ∃ W1, W1 = w1.alloc (.cells (boolsL fun _ => false).toArray 105) := ⟨_, rfl⟩
  have HRS : Hid (RS w.heap.size w1.heap.size ⟨o, d, n, m, a, x, k, h, t, c⟩ (fun _ => false) w W1) := Lib.hid (by
    rw [hW1]
    exact ⟨(Below.heap_alloc _ _ _ (by omega)).trans hR1, (MapKept.heap_alloc w1 _).1, hb1.alloc hb1.size _, Nat.le_refl _, by omega⟩)
  have HTW : Hid (Tab4 W1) := Lib.hid (HT.out.below HRS.out.2.2.1)
  have g0 : (w1.alloc (.cells (boolsL fun _ => false).toArray 105)).cell? ⟨w.heap.size, 0, none⟩ = some (.int .i64 o) := by rw [← hW1]; exact HRS.out.ten.1
  have HW1 := Lib.hid hW1
  clear hb hb1 hR1 hs1 hW1
  have HZ2 := HZ.out
  go_wp2_with fail
  rw [← HW1.out]
  obtain ⟨R, hR⟩ : ∃ R, R = w.heap.size := ⟨_, rfl⟩
  obtain ⟨B, hB⟩ : ∃ B, B = w1.heap.size := ⟨_, rfl⟩
  rw [← hR, ← hB] at HRS ⊢
  clear HZ2 g0 hR hB HW1
  obtain ⟨g0, g1, g2, g3, g4, g5, g6, g7, g8, g9⟩ := HRS.out.ten
  refine (HSh.out _ HTW.out).mono ?_
  rintro e w' ⟨rfl, rfl⟩
  go_wp2_with (first | (refine wpList_load_mid rfl 105 _ rfl B 0 rfl (boolsL _) _ (range_bools _ _ _ _ _ HRS.out.2.1) Tryd.underlying105 rfl (size_bools _) ?_) | (go_at_call 35; ((with_reducible refine (HN.out _).mono ?_); rintro e w' ⟨rfl, rfl⟩)) | (go_at_call 36; ((with_reducible refine (HM.out _).mono ?_); rintro e w' ⟨rfl, rfl⟩)) | (go_at_call 69; refine (note_any _ _ _ _ _ (by omega) HRS.out.2.1).mono ?_; rintro e w' ⟨rfl, hB', hg'⟩; replace HRS := Lib.hid (HRS.out.note hB' hg'); clear hB' hg'; obtain ⟨g0, g1, g2, g3, g4, g5, g6, g7, g8, g9⟩ := HRS.out.ten) | (go_at_call 71; refine (rising_any _ _).mono ?_; rintro e w2 ⟨a', c', rfl, hsl, hnil, hb2⟩))
  go_ret
  exact ⟨a', c', rfl, hsl, hnil, after HRS.out.2.2.1 hb2⟩

set_option maxRecDepth 100000 in
set_option maxHeartbeats 4000000 in
theorem reads_TFF_23 (x k h t c : Int) (d n m a : Nat) (s : Int) (st : Bool) (w : World) (hw : Tab4 w) (hn : n < 32) (hm : m < 32) (ha : a < 32) (hd : d < 32) (q6 : (s == 6) = false)
    (hIs : ∀ w, Tab4 w → Calls Tryd.prog 9 #[inV ⟨23, d, n, m, a, x, k, h, t, c⟩] w (RetB (.bool true) w)) (hSh : ∀ w, Tab4 w → Calls Tryd.prog 14 #[.int .i64 23] w (Ret (.int .i64 s) w))
    (hN : ∀ w, Calls Tryd.prog 35 #[.int .i64 s] w (Ret (.bool true) w)) (hM : ∀ w, Calls Tryd.prog 36 #[.int .i64 s] w (Ret (.bool false) w)) (hSt : ∀ w, Calls Tryd.prog 70 #[.int .i64 s] w (Ret (.bool st) w)) :
    Calls Tryd.prog 54 #[inV ⟨23, d, n, m, a, x, k, h, t, c⟩] w (RetL (riseL (markF (markF (fun _ => false) n st) d false)) w) := by
  have HIs := Lib.hid hIs
  have HSh := Lib.hid hSh
  have HN := Lib.hid hN
  have HM := Lib.hid hM
  have HSt := Lib.hid hSt
  have HT := Lib.hid hw
  have HZ := Lib.hid zero_bools
  have HBA := Lib.hid ((Below.refl w.heap.size w).alloc (Nat.le_refl _) (.cells (inC ⟨23, d, n, m, a, x, k, h, t, c⟩) 24))
  clear hIs hSh hN hM hSt hw
  go_enter Tryd.func54, Tryd.ntmps54
  go_wp2_with fail
  refine (HIs.out _ (HT.out.below HBA.out)).mono ?_
  rintro e w1 ⟨rfl, hb⟩
  have hb1 := after HBA.out hb
  have hR1 : w1.heap[w.heap.size]? = some (.cells (inC ⟨23, d, n, m, a, x, k, h, t, c⟩) 24 (0, 0)) := (hb.block w.heap.size (by simp)).trans (MapKept.heap_alloc w _).1
  have hs1 := hb.size
  rw [World.size_alloc] at hs1
  obtain ⟨W1, hW1⟩ : ∃ W1, W1 = w1.alloc (.cells (boolsL fun _ => false).toArray 105) := ⟨_, rfl⟩
  have HRS : Hid (RS w.heap.size w1.heap.size ⟨23, d, n, m, a, x, k, h, t, c⟩ (fun _ => false) w W1) := Lib.hid (by
    rw [hW1]
    exact ⟨(Below.heap_alloc _ _ _ (by omega)).trans hR1, (MapKept.heap_alloc w1 _).1, hb1.alloc hb1.size _, Nat.le_refl _, by omega⟩)
  have HTW : Hid (Tab4 W1) := Lib.hid (HT.out.below HRS.out.2.2.1)
  have g0 : (w1.alloc (.cells (boolsL fun _ => false).toArray 105)).cell? ⟨w.heap.size, 0, none⟩ = some (.int .i64 23) := by rw [← hW1]; exact HRS.out.ten.1
  have HW1 := Lib.hid hW1
  clear hb hb1 hR1 hs1 hW1
  have HZ2 := HZ.out
  go_wp2_with fail
  rw [← HW1.out]
  obtain ⟨R, hR⟩ : ∃ R, R = w.heap.size := ⟨_, rfl⟩
  obtain ⟨B, hB⟩ : ∃ B, B = w1.heap.size := ⟨_, rfl⟩
  rw [← hR, ← hB] at HRS ⊢
  clear HZ2 g0 hR hB HW1
  obtain ⟨g0, g1, g2, g3, g4, g5, g6, g7, g8, g9⟩ := HRS.out.ten
  refine (HSh.out _ HTW.out).mono ?_
  rintro e w' ⟨rfl, rfl⟩
  go_wp2_with (first | (go_at_call 35; ((with_reducible refine (HN.out _).mono ?_); rintro e w' ⟨rfl, rfl⟩)))
  replace HRS := Lib.hid HRS.out.drew
  go_region_held3 (fun w' => w'.cell? ⟨R, 2, none⟩ = some (.int .i64 n)) (go_keep)
    ((first
      | (go_at_call 70; refine (HSt.out _).mono ?_; rintro e w' ⟨rfl, rfl⟩)
      | (go_at_call 69; refine (note_any _ _ _ _ _ (by omega) HRS.out.2.1).mono ?_; rintro e w' ⟨rfl, hB', hg'⟩; replace HRS := Lib.hid (HRS.out.note hB' hg'); clear hB' hg'; obtain ⟨g0, g1, g2, g3, g4, g5, g6, g7, g8, g9⟩ := HRS.out.ten)))
  go_wp2_with (first | (refine wpList_load_mid rfl 105 _ rfl B 0 rfl (boolsL _) _ (range_bools _ _ _ _ _ HRS.out.2.1) Tryd.underlying105 rfl (size_bools _) ?_) | (go_at_call 36; ((with_reducible refine (HM.out _).mono ?_); rintro e w' ⟨rfl, rfl⟩)) | (go_at_call 69; refine (note_any _ _ _ _ _ (by omega) HRS.out.2.1).mono ?_; rintro e w' ⟨rfl, hB', hg'⟩; replace HRS := Lib.hid (HRS.out.note hB' hg'); clear hB' hg'; obtain ⟨g0, g1, g2, g3, g4, g5, g6, g7, g8, g9⟩ := HRS.out.ten) | (go_at_call 71; refine (rising_any _ _).mono ?_; rintro e w2 ⟨a', c', rfl, hsl, hnil, hb2⟩))
  go_ret
  exact ⟨a', c', rfl, hsl, hnil, after HRS.out.2.2.1 hb2⟩

set_option maxRecDepth 100000 in
set_option maxHeartbeats 4000000 in
theorem reads_TFF_25 (x k h t c : Int) (d n m a : Nat) (s : Int) (st : Bool) (w : World) (hw : Tab4 w) (hn : n < 32) (hm : m < 32) (ha : a < 32) (hd : d < 32) (q6 : (s == 6) = false)
    (hIs : ∀ w, Tab4 w → Calls Tryd.prog 9 #[inV ⟨25, d, n, m, a, x, k, h, t, c⟩] w (RetB (.bool true) w)) (hSh : ∀ w, Tab4 w → Calls Tryd.prog 14 #[.int .i64 25] w (Ret (.int .i64 s) w))
    (hN : ∀ w, Calls Tryd.prog 35 #[.int .i64 s] w (Ret (.bool true) w)) (hM : ∀ w, Calls Tryd.prog 36 #[.int .i64 s] w (Ret (.bool false) w)) (hSt : ∀ w, Calls Tryd.prog 70 #[.int .i64 s] w (Ret (.bool st) w)) :
    Calls Tryd.prog 54 #[inV ⟨25, d, n, m, a, x, k, h, t, c⟩] w (RetL (riseL (markF (markF (fun _ => false) n st) d false)) w) := by
  have HIs := Lib.hid hIs
  have HSh := Lib.hid hSh
  have HN := Lib.hid hN
  have HM := Lib.hid hM
  have HSt := Lib.hid hSt
  have HT := Lib.hid hw
  have HZ := Lib.hid zero_bools
  have HBA := Lib.hid ((Below.refl w.heap.size w).alloc (Nat.le_refl _) (.cells (inC ⟨25, d, n, m, a, x, k, h, t, c⟩) 24))
  clear hIs hSh hN hM hSt hw
  go_enter Tryd.func54, Tryd.ntmps54
  go_wp2_with fail
  refine (HIs.out _ (HT.out.below HBA.out)).mono ?_
  rintro e w1 ⟨rfl, hb⟩
  have hb1 := after HBA.out hb
  have hR1 : w1.heap[w.heap.size]? = some (.cells (inC ⟨25, d, n, m, a, x, k, h, t, c⟩) 24 (0, 0)) := (hb.block w.heap.size (by simp)).trans (MapKept.heap_alloc w _).1
  have hs1 := hb.size
  rw [World.size_alloc] at hs1
  obtain ⟨W1, hW1⟩ : ∃ W1, W1 = w1.alloc (.cells (boolsL fun _ => false).toArray 105) := ⟨_, rfl⟩
  have HRS : Hid (RS w.heap.size w1.heap.size ⟨25, d, n, m, a, x, k, h, t, c⟩ (fun _ => false) w W1) := Lib.hid (by
    rw [hW1]
    exact ⟨(Below.heap_alloc _ _ _ (by omega)).trans hR1, (MapKept.heap_alloc w1 _).1, hb1.alloc hb1.size _, Nat.le_refl _, by omega⟩)
  have HTW : Hid (Tab4 W1) := Lib.hid (HT.out.below HRS.out.2.2.1)
  have g0 : (w1.alloc (.cells (boolsL fun _ => false).toArray 105)).cell? ⟨w.heap.size, 0, none⟩ = some (.int .i64 25) := by rw [← hW1]; exact HRS.out.ten.1
  have HW1 := Lib.hid hW1
  clear hb hb1 hR1 hs1 hW1
  have HZ2 := HZ.out
  go_wp2_with fail
  rw [← HW1.out]
  obtain ⟨R, hR⟩ : ∃ R, R = w.heap.size := ⟨_, rfl⟩
  obtain ⟨B, hB⟩ : ∃ B, B = w1.heap.size := ⟨_, rfl⟩
  rw [← hR, ← hB] at HRS ⊢
  clear HZ2 g0 hR hB HW1
  obtain ⟨g0, g1, g2, g3, g4, g5, g6, g7, g8, g9⟩ := HRS.out.ten
  refine (HSh.out _ HTW.out).mono ?_
  rintro e w' ⟨rfl, rfl⟩
  go_wp2_with (first | (go_at_call 35; ((with_reducible refine (HN.out _).mono ?_); rintro e w' ⟨rfl, rfl⟩)))
  replace HRS := Lib.hid HRS.out.drew
  go_region_held3 (fun w' => w'.cell? ⟨R, 2, none⟩ = some (.int .i64 n)) (go_keep)
    ((first
      | (go_at_call 70; refine (HSt.out _).mono ?_; rintro e w' ⟨rfl, rfl⟩)
      | (go_at_call 69; refine (note_any _ _ _ _ _ (by omega) HRS.out.2.1).mono ?_; rintro e w' ⟨rfl, hB', hg'⟩; replace HRS := Lib.hid (HRS.out.note hB' hg'); clear hB' hg'; obtain ⟨g0, g1, g2, g3, g4, g5, g6, g7, g8, g9⟩ := HRS.out.ten)))
  go_wp2_with (first | (refine wpList_load_mid rfl 105 _ rfl B 0 rfl (boolsL _) _ (range_bools _ _ _ _ _ HRS.out.2.1) Tryd.underlying105 rfl (size_bools _) ?_) | (go_at_call 36; ((with_reducible refine (HM.out _).mono ?_); rintro e w' ⟨rfl, rfl⟩)) | (go_at_call 69; refine (note_any _ _ _ _ _ (by omega) HRS.out.2.1).mono ?_; rintro e w' ⟨rfl, hB', hg'⟩; replace HRS := Lib.hid (HRS.out.note hB' hg'); clear hB' hg'; obtain ⟨g0, g1, g2, g3, g4, g5, g6, g7, g8, g9⟩ := HRS.out.ten) | (go_at_call 71; refine (rising_any _ _).mono ?_; rintro e w2 ⟨a', c', rfl, hsl, hnil, hb2⟩))
  go_ret
  exact ⟨a', c', rfl, hsl, hnil, after HRS.out.2.2.1 hb2⟩

set_option maxRecDepth 100000 in
set_option maxHeartbeats 4000000 in
theorem reads_TFF_o (o : Int) (x k h t c : Int) (d n m a : Nat) (s : Int) (st : Bool) (w : World) (hw : Tab4 w) (q3 : (o == 3) = false) (q23 : (o == 23) = false) (q25 : (o == 25) = false) (q32 : (o == 32) = false) (q33 : (o == 33) = false) (q37 : (o == 37) = false) (hn : n < 32) (hm : m < 32) (ha : a < 32) (hd : d < 32) (q6 : (s == 6) = false)
    (hIs : ∀ w, Tab4 w → Calls Tryd.prog 9 #[inV ⟨o, d, n, m, a, x, k, h, t, c⟩] w (RetB (.bool true) w)) (hSh : ∀ w, Tab4 w → Calls Tryd.prog 14 #[.int .i64 o] w (Ret (.int .i64 s) w))
    (hN : ∀ w, Calls Tryd.prog 35 #[.int .i64 s] w (Ret (.bool true) w)) (hM : ∀ w, Calls Tryd.prog 36 #[.int .i64 s] w (Ret (.bool false) w)) (hSt : ∀ w, Calls Tryd.prog 70 #[.int .i64 s] w (Ret (.bool st) w)) :
    Calls Tryd.prog 54 #[inV ⟨o, d, n, m, a, x, k, h, t, c⟩] w (RetL (riseL (markF (fun _ => false) n st)) w) := by
  have HIs := Lib.hid hIs
  have HSh := Lib.hid hSh
  have HN := Lib.hid hN
  have HM := Lib.hid hM
  have HSt := Lib.hid hSt
  have HT := Lib.hid hw
  have HZ := Lib.hid zero_bools
  have HBA := Lib.hid ((Below.refl w.heap.size w).alloc (Nat.le_refl _) (.cells (inC ⟨o, d, n, m, a, x, k, h, t, c⟩) 24))
  clear hIs hSh hN hM hSt hw
  go_enter Tryd.func54, Tryd.ntmps54
  go_wp2_with fail
  refine (HIs.out _ (HT.out.below HBA.out)).mono ?_
  rintro e w1 ⟨rfl, hb⟩
  have hb1 := after HBA.out hb
  have hR1 : w1.heap[w.heap.size]? = some (.cells (inC ⟨o, d, n, m, a, x, k, h, t, c⟩) 24 (0, 0)) := (hb.block w.heap.size (by simp)).trans (MapKept.heap_alloc w _).1
  have hs1 := hb.size
  rw [World.size_alloc] at hs1
  obtain ⟨W1, hW1⟩ : ∃ W1, W1 = w1.alloc (.cells (boolsL fun _ => false).toArray 105) := ⟨_, rfl⟩
  have HRS : Hid (RS w.heap.size w1.heap.size ⟨o, d, n, m, a, x, k, h, t, c⟩ (fun _ => false) w W1) := Lib.hid (by
    rw [hW1]
    exact ⟨(Below.heap_alloc _ _ _ (by omega)).trans hR1, (MapKept.heap_alloc w1 _).1, hb1.alloc hb1.size _, Nat.le_refl _, by omega⟩)
  have HTW : Hid (Tab4 W1) := Lib.hid (HT.out.below HRS.out.2.2.1)
  have g0 : (w1.alloc (.cells (boolsL fun _ => false).toArray 105)).cell? ⟨w.heap.size, 0, none⟩ = some (.int .i64 o) := by rw [← hW1]; exact HRS.out.ten.1
  have HW1 := Lib.hid hW1
  clear hb hb1 hR1 hs1 hW1
  have HZ2 := HZ.out
  go_wp2_with fail
  rw [← HW1.out]
  obtain ⟨R, hR⟩ : ∃ R, R = w.heap.size := ⟨_, rfl⟩
  obtain ⟨B, hB⟩ : ∃ B, B = w1.heap.size := ⟨_, rfl⟩
  rw [← hR, ← hB] at HRS ⊢
  clear HZ2 g0 hR hB HW1
  obtain ⟨g0, g1, g2, g3, g4, g5, g6, g7, g8, g9⟩ := HRS.out.ten
  refine (HSh.out _ HTW.out).mono ?_
  rintro e w' ⟨rfl, rfl⟩
  go_wp2_with (first | (go_at_call 35; ((with_reducible refine (HN.out _).mono ?_); rintro e w' ⟨rfl, rfl⟩)))
  replace HRS := Lib.hid HRS.out.drew
  go_region_held3 (fun w' => w'.cell? ⟨R, 2, none⟩ = some (.int .i64 n)) (go_keep)
    ((first
      | (go_at_call 70; refine (HSt.out _).mono ?_; rintro e w' ⟨rfl, rfl⟩)
      | (go_at_call 69; refine (note_any _ _ _ _ _ (by omega) HRS.out.2.1).mono ?_; rintro e w' ⟨rfl, hB', hg'⟩; replace HRS := Lib.hid (HRS.out.note hB' hg'); clear hB' hg'; obtain ⟨g0, g1, g2, g3, g4, g5, g6, g7, g8, g9⟩ := HRS.out.ten)))
  go_wp2_with (first | (refine wpList_load_mid rfl 105 _ rfl B 0 rfl (boolsL _) _ (range_bools _ _ _ _ _ HRS.out.2.1) Tryd.underlying105 rfl (size_bools _) ?_) | (go_at_call 36; ((with_reducible refine (HM.out _).mono ?_); rintro e w' ⟨rfl, rfl⟩)) | (go_at_call 69; refine (note_any _ _ _ _ _ (by omega) HRS.out.2.1).mono ?_; rintro e w' ⟨rfl, hB', hg'⟩; replace HRS := Lib.hid (HRS.out.note hB' hg'); clear hB' hg'; obtain ⟨g0, g1, g2, g3, g4, g5, g6, g7, g8, g9⟩ := HRS.out.ten) | (go_at_call 71; refine (rising_any _ _).mono ?_; rintro e w2 ⟨a', c', rfl, hsl, hnil, hb2⟩))
  go_ret
  exact ⟨a', c', rfl, hsl, hnil, after HRS.out.2.2.1 hb2⟩

set_option maxRecDepth 100000 in
set_option maxHeartbeats 4000000 in
theorem reads_TTF_o (o : Int) (x k h t c : Int) (d n m a : Nat) (s : Int) (st : Bool) (w : World) (hw : Tab4 w) (q3 : (o == 3) = false) (q23 : (o == 23) = false) (q25 : (o == 25) = false) (q32 : (o == 32) = false) (q33 : (o == 33) = false) (q37 : (o == 37) = false) (hn : n < 32) (hm : m < 32) (ha : a < 32) (hd : d < 32) (q6 : (s == 6) = false)
    (hIs : ∀ w, Tab4 w → Calls Tryd.prog 9 #[inV ⟨o, d, n, m, a, x, k, h, t, c⟩] w (RetB (.bool true) w)) (hSh : ∀ w, Tab4 w → Calls Tryd.prog 14 #[.int .i64 o] w (Ret (.int .i64 s) w))
    (hN : ∀ w, Calls Tryd.prog 35 #[.int .i64 s] w (Ret (.bool true) w)) (hM : ∀ w, Calls Tryd.prog 36 #[.int .i64 s] w (Ret (.bool true) w)) (hSt : ∀ w, Calls Tryd.prog 70 #[.int .i64 s] w (Ret (.bool st) w)) :
    Calls Tryd.prog 54 #[inV ⟨o, d, n, m, a, x, k, h, t, c⟩] w (RetL (riseL (markF (markF (fun _ => false) n st) m false)) w) := by
  have HIs := Lib.hid hIs
  have HSh := Lib.hid hSh
  have HN := Lib.hid hN
  have HM := Lib.hid hM
  have HSt := Lib.hid hSt
  have HT := Lib.hid hw
  have HZ := Lib.hid zero_bools
  have HBA := Lib.hid ((Below.refl w.heap.size w).alloc (Nat.le_refl _) (.cells (inC ⟨o, d, n, m, a, x, k, h, t, c⟩) 24))
  clear hIs hSh hN hM hSt hw
  go_enter Tryd.func54, Tryd.ntmps54
  go_wp2_with fail
  refine (HIs.out _ (HT.out.below HBA.out)).mono ?_
  rintro e w1 ⟨rfl, hb⟩
  have hb1 := after HBA.out hb
  have hR1 : w1.heap[w.heap.size]? = some (.cells (inC ⟨o, d, n, m, a, x, k, h, t, c⟩) 24 (0, 0)) := (hb.block w.heap.size (by simp)).trans (MapKept.heap_alloc w _).1
  have hs1 := hb.size
  rw [World.size_alloc] at hs1
  obtain ⟨W1, hW1⟩ : ∃ W1, W1 = w1.alloc (.cells (boolsL fun _ => false).toArray 105) := ⟨_, rfl⟩
  have HRS : Hid (RS w.heap.size w1.heap.size ⟨o, d, n, m, a, x, k, h, t, c⟩ (fun _ => false) w W1) := Lib.hid (by
    rw [hW1]
    exact ⟨(Below.heap_alloc _ _ _ (by omega)).trans hR1, (MapKept.heap_alloc w1 _).1, hb1.alloc hb1.size _, Nat.le_refl _, by omega⟩)
  have HTW : Hid (Tab4 W1) := Lib.hid (HT.out.below HRS.out.2.2.1)
  have g0 : (w1.alloc (.cells (boolsL fun _ => false).toArray 105)).cell? ⟨w.heap.size, 0, none⟩ = some (.int .i64 o) := by rw [← hW1]; exact HRS.out.ten.1
  have HW1 := Lib.hid hW1
  clear hb hb1 hR1 hs1 hW1
  have HZ2 := HZ.out
  go_wp2_with fail
  rw [← HW1.out]
  obtain ⟨R, hR⟩ : ∃ R, R = w.heap.size := ⟨_, rfl⟩
  obtain ⟨B, hB⟩ : ∃ B, B = w1.heap.size := ⟨_, rfl⟩
  rw [← hR, ← hB] at HRS ⊢
  clear HZ2 g0 hR hB HW1
  obtain ⟨g0, g1, g2, g3, g4, g5, g6, g7, g8, g9⟩ := HRS.out.ten
  refine (HSh.out _ HTW.out).mono ?_
  rintro e w' ⟨rfl, rfl⟩
  go_wp2_with (first | (go_at_call 35; ((with_reducible refine (HN.out _).mono ?_); rintro e w' ⟨rfl, rfl⟩)))
  replace HRS := Lib.hid HRS.out.drew
  go_region_held3 (fun w' => w'.cell? ⟨R, 2, none⟩ = some (.int .i64 n)) (go_keep)
    ((first
      | (go_at_call 70; refine (HSt.out _).mono ?_; rintro e w' ⟨rfl, rfl⟩)
      | (go_at_call 69; refine (note_any _ _ _ _ _ (by omega) HRS.out.2.1).mono ?_; rintro e w' ⟨rfl, hB', hg'⟩; replace HRS := Lib.hid (HRS.out.note hB' hg'); clear hB' hg'; obtain ⟨g0, g1, g2, g3, g4, g5, g6, g7, g8, g9⟩ := HRS.out.ten)))
  go_wp2_with (first | (refine wpList_load_mid rfl 105 _ rfl B 0 rfl (boolsL _) _ (range_bools _ _ _ _ _ HRS.out.2.1) Tryd.underlying105 rfl (size_bools _) ?_) | (go_at_call 36; ((with_reducible refine (HM.out _).mono ?_); rintro e w' ⟨rfl, rfl⟩)) | (go_at_call 69; refine (note_any _ _ _ _ _ (by omega) HRS.out.2.1).mono ?_; rintro e w' ⟨rfl, hB', hg'⟩; replace HRS := Lib.hid (HRS.out.note hB' hg'); clear hB' hg'; obtain ⟨g0, g1, g2, g3, g4, g5, g6, g7, g8, g9⟩ := HRS.out.ten) | (go_at_call 71; refine (rising_any _ _).mono ?_; rintro e w2 ⟨a', c', rfl, hsl, hnil, hb2⟩))
  go_ret
  exact ⟨a', c', rfl, hsl, hnil, after HRS.out.2.2.1 hb2⟩

set_option maxRecDepth 100000 in
set_option maxHeartbeats 4000000 in
theorem reads_TTT_o (o : Int) (x k h t c : Int) (d n m a : Nat) (s : Int) (st : Bool) (w : World) (hw : Tab4 w) (q3 : (o == 3) = false) (q23 : (o == 23) = false) (q25 : (o == 25) = false) (q32 : (o == 32) = false) (q33 : (o == 33) = false) (q37 : (o == 37) = false) (hn : n < 32) (hm : m < 32) (ha : a < 32) (hd : d < 32) (q6 : (s == 6) = true)
    (hIs : ∀ w, Tab4 w → Calls Tryd.prog 9 #[inV ⟨o, d, n, m, a, x, k, h, t, c⟩] w (RetB (.bool true) w)) (hSh : ∀ w, Tab4 w → Calls Tryd.prog 14 #[.int .i64 o] w (Ret (.int .i64 s) w))
    (hN : ∀ w, Calls Tryd.prog 35 #[.int .i64 s] w (Ret (.bool true) w)) (hM : ∀ w, Calls Tryd.prog 36 #[.int .i64 s] w (Ret (.bool true) w)) (hSt : ∀ w, Calls Tryd.prog 70 #[.int .i64 s] w (Ret (.bool st) w)) :
    Calls Tryd.prog 54 #[inV ⟨o, d, n, m, a, x, k, h, t, c⟩] w (RetL (riseL (markF (markF (markF (fun _ => false) n st) m false) a false)) w) := by
  have HIs := Lib.hid hIs
  have HSh := Lib.hid hSh
  have HN := Lib.hid hN
  have HM := Lib.hid hM
  have HSt := Lib.hid hSt
  have HT := Lib.hid hw
  have HZ := Lib.hid zero_bools
  have HBA := Lib.hid ((Below.refl w.heap.size w).alloc (Nat.le_refl _) (.cells (inC ⟨o, d, n, m, a, x, k, h, t, c⟩) 24))
  clear hIs hSh hN hM hSt hw
  go_enter Tryd.func54, Tryd.ntmps54
  go_wp2_with fail
  refine (HIs.out _ (HT.out.below HBA.out)).mono ?_
  rintro e w1 ⟨rfl, hb⟩
  have hb1 := after HBA.out hb
  have hR1 : w1.heap[w.heap.size]? = some (.cells (inC ⟨o, d, n, m, a, x, k, h, t, c⟩) 24 (0, 0)) := (hb.block w.heap.size (by simp)).trans (MapKept.heap_alloc w _).1
  have hs1 := hb.size
  rw [World.size_alloc] at hs1
  obtain ⟨W1, hW1⟩ : ∃ W1, W1 = w1.alloc (.cells (boolsL fun _ => false).toArray 105) := ⟨_, rfl⟩
  have HRS : Hid (RS w.heap.size w1.heap.size ⟨o, d, n, m, a, x, k, h, t, c⟩ (fun _ => false) w W1) := Lib.hid (by
    rw [hW1]
    exact ⟨(Below.heap_alloc _ _ _ (by omega)).trans hR1, (MapKept.heap_alloc w1 _).1, hb1.alloc hb1.size _, Nat.le_refl _, by omega⟩)
  have HTW : Hid (Tab4 W1) := Lib.hid (HT.out.below HRS.out.2.2.1)
  have g0 : (w1.alloc (.cells (boolsL fun _ => false).toArray 105)).cell? ⟨w.heap.size, 0, none⟩ = some (.int .i64 o) := by rw [← hW1]; exact HRS.out.ten.1
  have HW1 := Lib.hid hW1
  clear hb hb1 hR1 hs1 hW1
  have HZ2 := HZ.out
  go_wp2_with fail
  rw [← HW1.out]
  obtain ⟨R, hR⟩ : ∃ R, R = w.heap.size := ⟨_, rfl⟩
  obtain ⟨B, hB⟩ : ∃ B, B = w1.heap.size := ⟨_, rfl⟩
  rw [← hR, ← hB] at HRS ⊢
  clear HZ2 g0 hR hB HW1
  obtain ⟨g0, g1, g2, g3, g4, g5, g6, g7, g8, g9⟩ := HRS.out.ten
  refine (HSh.out _ HTW.out).mono ?_
  rintro e w' ⟨rfl, rfl⟩
  go_wp2_with (first | (go_at_call 35; ((with_reducible refine (HN.out _).mono ?_); rintro e w' ⟨rfl, rfl⟩)))
  replace HRS := Lib.hid HRS.out.drew
  go_region_held3 (fun w' => w'.cell? ⟨R, 2, none⟩ = some (.int .i64 n)) (go_keep)
    ((first
      | (go_at_call 70; refine (HSt.out _).mono ?_; rintro e w' ⟨rfl, rfl⟩)
      | (go_at_call 69; refine (note_any _ _ _ _ _ (by omega) HRS.out.2.1).mono ?_; rintro e w' ⟨rfl, hB', hg'⟩; replace HRS := Lib.hid (HRS.out.note hB' hg'); clear hB' hg'; obtain ⟨g0, g1, g2, g3, g4, g5, g6, g7, g8, g9⟩ := HRS.out.ten)))
  go_wp2_with (first | (refine wpList_load_mid rfl 105 _ rfl B 0 rfl (boolsL _) _ (range_bools _ _ _ _ _ HRS.out.2.1) Tryd.underlying105 rfl (size_bools _) ?_) | (go_at_call 36; ((with_reducible refine (HM.out _).mono ?_); rintro e w' ⟨rfl, rfl⟩)) | (go_at_call 69; refine (note_any _ _ _ _ _ (by omega) HRS.out.2.1).mono ?_; rintro e w' ⟨rfl, hB', hg'⟩; replace HRS := Lib.hid (HRS.out.note hB' hg'); clear hB' hg'; obtain ⟨g0, g1, g2, g3, g4, g5, g6, g7, g8, g9⟩ := HRS.out.ten) | (go_at_call 71; refine (rising_any _ _).mono ?_; rintro e w2 ⟨a', c', rfl, hsl, hnil, hb2⟩))
  go_ret
  exact ⟨a', c', rfl, hsl, hnil, after HRS.out.2.2.1 hb2⟩

end Go.Proofs.YtkcgnmicaigjfaaDoor
