/- inst.Is, where a field that the shape does not have is not 0. -/
import Derived.Test.YtkcgnmicaigjfaaDoorkI3
namespace Go.Proofs.YtkcgnmicaigjfaaDoor
set_option linter.unusedVariables false
set_option linter.unusedSimpArgs false
open Go.RowKit

set_option maxRecDepth 100000 in
set_option maxHeartbeats 4000000 in
theorem Is_ne0 (i j : In) (w : World) (hw : Tab4 w) (h0 : shapeI i.op ≠ 0) (he : ownI (shapeI i.op) i = j) (eo : (i.op == j.op) = true)  (e0 : (i.d == j.d) = false) : Calls Tryd.prog 9 #[inV i] w (RetB (.bool false) w) := by
  obtain ⟨o, d, n, m, a, x, k, h, t, c⟩ := i
  have hsh := shapeI_b o
  have HSh : Hid (∀ w, Tab4 w → Calls Tryd.prog 14 #[.int .i64 o] w (Ret (.int .i64 (shapeI o)) w)) := Lib.hid fun w h => Shape_any o w h
  have HT := Lib.hid hw
  have HBA := Lib.hid ((Below.refl w.heap.size w).alloc (Nat.le_refl _) (.cells (inC ⟨o, d, n, m, a, x, k, h, t, c⟩) 24))
  obtain ⟨o', d', n', m', a', x', k', h', t', c'⟩ := j
  simp only [] at eo e0
  obtain ⟨s, hs⟩ : ∃ s, s = shapeI o := ⟨_, rfl⟩
  have hs1 : 1 ≤ s ∧ s ≤ 16 := by have : shapeI o ≠ 0 := h0; omega
  have q0 : (s != 0) = true := by rw [bne_iff_ne]; omega
  have HOwn : Hid (∀ w, Calls Tryd.prog 18 #[inV ⟨o, d, n, m, a, x, k, h, t, c⟩, .int .i64 s] w (RetB (inV ⟨o', d', n', m', a', x', k', h', t', c'⟩) w)) := Lib.hid fun w => by
    have := own_any s ⟨o, d, n, m, a, x, k, h, t, c⟩ w hs1.1 hs1.2
    rw [hs] at this ⊢
    rwa [he] at this
  rw [← hs] at HSh
  clear hs hsh h0 hw he hs1
  go_enter Tryd.func9, Tryd.ntmps9
  go_wp2_with (first | (go_at_call 14; ((with_reducible refine (HSh.out _ (HT.out.below HBA.out)).mono ?_); rintro e w' ⟨rfl, rfl⟩)))
  obtain ⟨R, hR⟩ : ∃ R, R = w.heap.size := ⟨_, rfl⟩
  obtain ⟨wa, hwa⟩ : ∃ wa, wa = w.alloc (.cells (inC ⟨o, d, n, m, a, x, k, h, t, c⟩) 24) := ⟨_, rfl⟩
  have hten : Ten R ⟨o, d, n, m, a, x, k, h, t, c⟩ wa := by rw [hwa, hR]; exact Ten.made _ _ _
  have HTen := Lib.hid hten
  have hRl : R < wa.heap.size := by rw [hwa, hR]; simp
  rw [← hwa] at HBA
  rw [← hR, ← hwa]
  clear hR hwa hten
  have hx0 : Below wa.heap.size wa wa := Below.refl _ _
  obtain ⟨c0, c1, c2, c3, c4, c5, c6, c7, c8, c9⟩ := HTen.out
  first
  | (go_region_with (go_at_call 18; refine (HOwn.out _).mono ?_; rintro e w' ⟨rfl, hb5⟩; have hx5 : Below wa.heap.size wa w' := ((Below.refl _ wa).drew).trans hb5; obtain ⟨g0, g1, g2, g3, g4, g5, g6, g7, g8, g9⟩ := HTen.out.below hx5 hRl))
  | fail
  all_goals
    go_wp2
    go_ret
    exact retB_bool rfl (after HBA.out hx5)

set_option maxRecDepth 100000 in
set_option maxHeartbeats 4000000 in
theorem Is_ne1 (i j : In) (w : World) (hw : Tab4 w) (h0 : shapeI i.op ≠ 0) (he : ownI (shapeI i.op) i = j) (eo : (i.op == j.op) = true) (e0 : (i.d == j.d) = true) (e1 : (i.n == j.n) = false) : Calls Tryd.prog 9 #[inV i] w (RetB (.bool false) w) := by
  obtain ⟨o, d, n, m, a, x, k, h, t, c⟩ := i
  have hsh := shapeI_b o
  have HSh : Hid (∀ w, Tab4 w → Calls Tryd.prog 14 #[.int .i64 o] w (Ret (.int .i64 (shapeI o)) w)) := Lib.hid fun w h => Shape_any o w h
  have HT := Lib.hid hw
  have HBA := Lib.hid ((Below.refl w.heap.size w).alloc (Nat.le_refl _) (.cells (inC ⟨o, d, n, m, a, x, k, h, t, c⟩) 24))
  obtain ⟨o', d', n', m', a', x', k', h', t', c'⟩ := j
  simp only [] at eo e0 e1
  obtain ⟨s, hs⟩ : ∃ s, s = shapeI o := ⟨_, rfl⟩
  have hs1 : 1 ≤ s ∧ s ≤ 16 := by have : shapeI o ≠ 0 := h0; omega
  have q0 : (s != 0) = true := by rw [bne_iff_ne]; omega
  have HOwn : Hid (∀ w, Calls Tryd.prog 18 #[inV ⟨o, d, n, m, a, x, k, h, t, c⟩, .int .i64 s] w (RetB (inV ⟨o', d', n', m', a', x', k', h', t', c'⟩) w)) := Lib.hid fun w => by
    have := own_any s ⟨o, d, n, m, a, x, k, h, t, c⟩ w hs1.1 hs1.2
    rw [hs] at this ⊢
    rwa [he] at this
  rw [← hs] at HSh
  clear hs hsh h0 hw he hs1
  go_enter Tryd.func9, Tryd.ntmps9
  go_wp2_with (first | (go_at_call 14; ((with_reducible refine (HSh.out _ (HT.out.below HBA.out)).mono ?_); rintro e w' ⟨rfl, rfl⟩)))
  obtain ⟨R, hR⟩ : ∃ R, R = w.heap.size := ⟨_, rfl⟩
  obtain ⟨wa, hwa⟩ : ∃ wa, wa = w.alloc (.cells (inC ⟨o, d, n, m, a, x, k, h, t, c⟩) 24) := ⟨_, rfl⟩
  have hten : Ten R ⟨o, d, n, m, a, x, k, h, t, c⟩ wa := by rw [hwa, hR]; exact Ten.made _ _ _
  have HTen := Lib.hid hten
  have hRl : R < wa.heap.size := by rw [hwa, hR]; simp
  rw [← hwa] at HBA
  rw [← hR, ← hwa]
  clear hR hwa hten
  have hx0 : Below wa.heap.size wa wa := Below.refl _ _
  obtain ⟨c0, c1, c2, c3, c4, c5, c6, c7, c8, c9⟩ := HTen.out
  first
  | (go_region_with (go_at_call 18; refine (HOwn.out _).mono ?_; rintro e w' ⟨rfl, hb5⟩; have hx5 : Below wa.heap.size wa w' := ((Below.refl _ wa).drew).trans hb5; obtain ⟨g0, g1, g2, g3, g4, g5, g6, g7, g8, g9⟩ := HTen.out.below hx5 hRl))
  | fail
  all_goals
    go_wp2
    go_ret
    exact retB_bool rfl (after HBA.out hx5)

set_option maxRecDepth 100000 in
set_option maxHeartbeats 4000000 in
theorem Is_ne2 (i j : In) (w : World) (hw : Tab4 w) (h0 : shapeI i.op ≠ 0) (he : ownI (shapeI i.op) i = j) (eo : (i.op == j.op) = true) (e0 : (i.d == j.d) = true) (e1 : (i.n == j.n) = true) (e2 : (i.m == j.m) = false) : Calls Tryd.prog 9 #[inV i] w (RetB (.bool false) w) := by
  obtain ⟨o, d, n, m, a, x, k, h, t, c⟩ := i
  have hsh := shapeI_b o
  have HSh : Hid (∀ w, Tab4 w → Calls Tryd.prog 14 #[.int .i64 o] w (Ret (.int .i64 (shapeI o)) w)) := Lib.hid fun w h => Shape_any o w h
  have HT := Lib.hid hw
  have HBA := Lib.hid ((Below.refl w.heap.size w).alloc (Nat.le_refl _) (.cells (inC ⟨o, d, n, m, a, x, k, h, t, c⟩) 24))
  obtain ⟨o', d', n', m', a', x', k', h', t', c'⟩ := j
  simp only [] at eo e0 e1 e2
  obtain ⟨s, hs⟩ : ∃ s, s = shapeI o := ⟨_, rfl⟩
  have hs1 : 1 ≤ s ∧ s ≤ 16 := by have : shapeI o ≠ 0 := h0; omega
  have q0 : (s != 0) = true := by rw [bne_iff_ne]; omega
  have HOwn : Hid (∀ w, Calls Tryd.prog 18 #[inV ⟨o, d, n, m, a, x, k, h, t, c⟩, .int .i64 s] w (RetB (inV ⟨o', d', n', m', a', x', k', h', t', c'⟩) w)) := Lib.hid fun w => by
    have := own_any s ⟨o, d, n, m, a, x, k, h, t, c⟩ w hs1.1 hs1.2
    rw [hs] at this ⊢
    rwa [he] at this
  rw [← hs] at HSh
  clear hs hsh h0 hw he hs1
  go_enter Tryd.func9, Tryd.ntmps9
  go_wp2_with (first | (go_at_call 14; ((with_reducible refine (HSh.out _ (HT.out.below HBA.out)).mono ?_); rintro e w' ⟨rfl, rfl⟩)))
  obtain ⟨R, hR⟩ : ∃ R, R = w.heap.size := ⟨_, rfl⟩
  obtain ⟨wa, hwa⟩ : ∃ wa, wa = w.alloc (.cells (inC ⟨o, d, n, m, a, x, k, h, t, c⟩) 24) := ⟨_, rfl⟩
  have hten : Ten R ⟨o, d, n, m, a, x, k, h, t, c⟩ wa := by rw [hwa, hR]; exact Ten.made _ _ _
  have HTen := Lib.hid hten
  have hRl : R < wa.heap.size := by rw [hwa, hR]; simp
  rw [← hwa] at HBA
  rw [← hR, ← hwa]
  clear hR hwa hten
  have hx0 : Below wa.heap.size wa wa := Below.refl _ _
  obtain ⟨c0, c1, c2, c3, c4, c5, c6, c7, c8, c9⟩ := HTen.out
  first
  | (go_region_with (go_at_call 18; refine (HOwn.out _).mono ?_; rintro e w' ⟨rfl, hb5⟩; have hx5 : Below wa.heap.size wa w' := ((Below.refl _ wa).drew).trans hb5; obtain ⟨g0, g1, g2, g3, g4, g5, g6, g7, g8, g9⟩ := HTen.out.below hx5 hRl))
  | fail
  all_goals
    go_wp2
    go_ret
    exact retB_bool rfl (after HBA.out hx5)

set_option maxRecDepth 100000 in
set_option maxHeartbeats 4000000 in
theorem Is_ne3 (i j : In) (w : World) (hw : Tab4 w) (h0 : shapeI i.op ≠ 0) (he : ownI (shapeI i.op) i = j) (eo : (i.op == j.op) = true) (e0 : (i.d == j.d) = true) (e1 : (i.n == j.n) = true) (e2 : (i.m == j.m) = true) (e3 : (i.a == j.a) = false) : Calls Tryd.prog 9 #[inV i] w (RetB (.bool false) w) := by
  obtain ⟨o, d, n, m, a, x, k, h, t, c⟩ := i
  have hsh := shapeI_b o
  have HSh : Hid (∀ w, Tab4 w → Calls Tryd.prog 14 #[.int .i64 o] w (Ret (.int .i64 (shapeI o)) w)) := Lib.hid fun w h => Shape_any o w h
  have HT := Lib.hid hw
  have HBA := Lib.hid ((Below.refl w.heap.size w).alloc (Nat.le_refl _) (.cells (inC ⟨o, d, n, m, a, x, k, h, t, c⟩) 24))
  obtain ⟨o', d', n', m', a', x', k', h', t', c'⟩ := j
  simp only [] at eo e0 e1 e2 e3
  obtain ⟨s, hs⟩ : ∃ s, s = shapeI o := ⟨_, rfl⟩
  have hs1 : 1 ≤ s ∧ s ≤ 16 := by have : shapeI o ≠ 0 := h0; omega
  have q0 : (s != 0) = true := by rw [bne_iff_ne]; omega
  have HOwn : Hid (∀ w, Calls Tryd.prog 18 #[inV ⟨o, d, n, m, a, x, k, h, t, c⟩, .int .i64 s] w (RetB (inV ⟨o', d', n', m', a', x', k', h', t', c'⟩) w)) := Lib.hid fun w => by
    have := own_any s ⟨o, d, n, m, a, x, k, h, t, c⟩ w hs1.1 hs1.2
    rw [hs] at this ⊢
    rwa [he] at this
  rw [← hs] at HSh
  clear hs hsh h0 hw he hs1
  go_enter Tryd.func9, Tryd.ntmps9
  go_wp2_with (first | (go_at_call 14; ((with_reducible refine (HSh.out _ (HT.out.below HBA.out)).mono ?_); rintro e w' ⟨rfl, rfl⟩)))
  obtain ⟨R, hR⟩ : ∃ R, R = w.heap.size := ⟨_, rfl⟩
  obtain ⟨wa, hwa⟩ : ∃ wa, wa = w.alloc (.cells (inC ⟨o, d, n, m, a, x, k, h, t, c⟩) 24) := ⟨_, rfl⟩
  have hten : Ten R ⟨o, d, n, m, a, x, k, h, t, c⟩ wa := by rw [hwa, hR]; exact Ten.made _ _ _
  have HTen := Lib.hid hten
  have hRl : R < wa.heap.size := by rw [hwa, hR]; simp
  rw [← hwa] at HBA
  rw [← hR, ← hwa]
  clear hR hwa hten
  have hx0 : Below wa.heap.size wa wa := Below.refl _ _
  obtain ⟨c0, c1, c2, c3, c4, c5, c6, c7, c8, c9⟩ := HTen.out
  first
  | (go_region_with (go_at_call 18; refine (HOwn.out _).mono ?_; rintro e w' ⟨rfl, hb5⟩; have hx5 : Below wa.heap.size wa w' := ((Below.refl _ wa).drew).trans hb5; obtain ⟨g0, g1, g2, g3, g4, g5, g6, g7, g8, g9⟩ := HTen.out.below hx5 hRl))
  | fail
  all_goals
    go_wp2
    go_ret
    exact retB_bool rfl (after HBA.out hx5)

set_option maxRecDepth 100000 in
set_option maxHeartbeats 4000000 in
theorem Is_ne4 (i j : In) (w : World) (hw : Tab4 w) (h0 : shapeI i.op ≠ 0) (he : ownI (shapeI i.op) i = j) (eo : (i.op == j.op) = true) (e0 : (i.d == j.d) = true) (e1 : (i.n == j.n) = true) (e2 : (i.m == j.m) = true) (e3 : (i.a == j.a) = true) (e4 : (i.imm == j.imm) = false) : Calls Tryd.prog 9 #[inV i] w (RetB (.bool false) w) := by
  obtain ⟨o, d, n, m, a, x, k, h, t, c⟩ := i
  have hsh := shapeI_b o
  have HSh : Hid (∀ w, Tab4 w → Calls Tryd.prog 14 #[.int .i64 o] w (Ret (.int .i64 (shapeI o)) w)) := Lib.hid fun w h => Shape_any o w h
  have HT := Lib.hid hw
  have HBA := Lib.hid ((Below.refl w.heap.size w).alloc (Nat.le_refl _) (.cells (inC ⟨o, d, n, m, a, x, k, h, t, c⟩) 24))
  obtain ⟨o', d', n', m', a', x', k', h', t', c'⟩ := j
  simp only [] at eo e0 e1 e2 e3 e4
  obtain ⟨s, hs⟩ : ∃ s, s = shapeI o := ⟨_, rfl⟩
  have hs1 : 1 ≤ s ∧ s ≤ 16 := by have : shapeI o ≠ 0 := h0; omega
  have q0 : (s != 0) = true := by rw [bne_iff_ne]; omega
  have HOwn : Hid (∀ w, Calls Tryd.prog 18 #[inV ⟨o, d, n, m, a, x, k, h, t, c⟩, .int .i64 s] w (RetB (inV ⟨o', d', n', m', a', x', k', h', t', c'⟩) w)) := Lib.hid fun w => by
    have := own_any s ⟨o, d, n, m, a, x, k, h, t, c⟩ w hs1.1 hs1.2
    rw [hs] at this ⊢
    rwa [he] at this
  rw [← hs] at HSh
  clear hs hsh h0 hw he hs1
  go_enter Tryd.func9, Tryd.ntmps9
  go_wp2_with (first | (go_at_call 14; ((with_reducible refine (HSh.out _ (HT.out.below HBA.out)).mono ?_); rintro e w' ⟨rfl, rfl⟩)))
  obtain ⟨R, hR⟩ : ∃ R, R = w.heap.size := ⟨_, rfl⟩
  obtain ⟨wa, hwa⟩ : ∃ wa, wa = w.alloc (.cells (inC ⟨o, d, n, m, a, x, k, h, t, c⟩) 24) := ⟨_, rfl⟩
  have hten : Ten R ⟨o, d, n, m, a, x, k, h, t, c⟩ wa := by rw [hwa, hR]; exact Ten.made _ _ _
  have HTen := Lib.hid hten
  have hRl : R < wa.heap.size := by rw [hwa, hR]; simp
  rw [← hwa] at HBA
  rw [← hR, ← hwa]
  clear hR hwa hten
  have hx0 : Below wa.heap.size wa wa := Below.refl _ _
  obtain ⟨c0, c1, c2, c3, c4, c5, c6, c7, c8, c9⟩ := HTen.out
  first
  | (go_region_with (go_at_call 18; refine (HOwn.out _).mono ?_; rintro e w' ⟨rfl, hb5⟩; have hx5 : Below wa.heap.size wa w' := ((Below.refl _ wa).drew).trans hb5; obtain ⟨g0, g1, g2, g3, g4, g5, g6, g7, g8, g9⟩ := HTen.out.below hx5 hRl))
  | fail
  all_goals
    go_wp2
    go_ret
    exact retB_bool rfl (after HBA.out hx5)

set_option maxRecDepth 100000 in
set_option maxHeartbeats 4000000 in
theorem Is_ne5 (i j : In) (w : World) (hw : Tab4 w) (h0 : shapeI i.op ≠ 0) (he : ownI (shapeI i.op) i = j) (eo : (i.op == j.op) = true) (e0 : (i.d == j.d) = true) (e1 : (i.n == j.n) = true) (e2 : (i.m == j.m) = true) (e3 : (i.a == j.a) = true) (e4 : (i.imm == j.imm) = true) (e5 : (i.mask == j.mask) = false) : Calls Tryd.prog 9 #[inV i] w (RetB (.bool false) w) := by
  obtain ⟨o, d, n, m, a, x, k, h, t, c⟩ := i
  have hsh := shapeI_b o
  have HSh : Hid (∀ w, Tab4 w → Calls Tryd.prog 14 #[.int .i64 o] w (Ret (.int .i64 (shapeI o)) w)) := Lib.hid fun w h => Shape_any o w h
  have HT := Lib.hid hw
  have HBA := Lib.hid ((Below.refl w.heap.size w).alloc (Nat.le_refl _) (.cells (inC ⟨o, d, n, m, a, x, k, h, t, c⟩) 24))
  obtain ⟨o', d', n', m', a', x', k', h', t', c'⟩ := j
  simp only [] at eo e0 e1 e2 e3 e4 e5
  obtain ⟨s, hs⟩ : ∃ s, s = shapeI o := ⟨_, rfl⟩
  have hs1 : 1 ≤ s ∧ s ≤ 16 := by have : shapeI o ≠ 0 := h0; omega
  have q0 : (s != 0) = true := by rw [bne_iff_ne]; omega
  have HOwn : Hid (∀ w, Calls Tryd.prog 18 #[inV ⟨o, d, n, m, a, x, k, h, t, c⟩, .int .i64 s] w (RetB (inV ⟨o', d', n', m', a', x', k', h', t', c'⟩) w)) := Lib.hid fun w => by
    have := own_any s ⟨o, d, n, m, a, x, k, h, t, c⟩ w hs1.1 hs1.2
    rw [hs] at this ⊢
    rwa [he] at this
  rw [← hs] at HSh
  clear hs hsh h0 hw he hs1
  go_enter Tryd.func9, Tryd.ntmps9
  go_wp2_with (first | (go_at_call 14; ((with_reducible refine (HSh.out _ (HT.out.below HBA.out)).mono ?_); rintro e w' ⟨rfl, rfl⟩)))
  obtain ⟨R, hR⟩ : ∃ R, R = w.heap.size := ⟨_, rfl⟩
  obtain ⟨wa, hwa⟩ : ∃ wa, wa = w.alloc (.cells (inC ⟨o, d, n, m, a, x, k, h, t, c⟩) 24) := ⟨_, rfl⟩
  have hten : Ten R ⟨o, d, n, m, a, x, k, h, t, c⟩ wa := by rw [hwa, hR]; exact Ten.made _ _ _
  have HTen := Lib.hid hten
  have hRl : R < wa.heap.size := by rw [hwa, hR]; simp
  rw [← hwa] at HBA
  rw [← hR, ← hwa]
  clear hR hwa hten
  have hx0 : Below wa.heap.size wa wa := Below.refl _ _
  obtain ⟨c0, c1, c2, c3, c4, c5, c6, c7, c8, c9⟩ := HTen.out
  first
  | (go_region_with (go_at_call 18; refine (HOwn.out _).mono ?_; rintro e w' ⟨rfl, hb5⟩; have hx5 : Below wa.heap.size wa w' := ((Below.refl _ wa).drew).trans hb5; obtain ⟨g0, g1, g2, g3, g4, g5, g6, g7, g8, g9⟩ := HTen.out.below hx5 hRl))
  | fail
  all_goals
    go_wp2
    go_ret
    exact retB_bool rfl (after HBA.out hx5)

set_option maxRecDepth 100000 in
set_option maxHeartbeats 4000000 in
theorem Is_ne6 (i j : In) (w : World) (hw : Tab4 w) (h0 : shapeI i.op ≠ 0) (he : ownI (shapeI i.op) i = j) (eo : (i.op == j.op) = true) (e0 : (i.d == j.d) = true) (e1 : (i.n == j.n) = true) (e2 : (i.m == j.m) = true) (e3 : (i.a == j.a) = true) (e4 : (i.imm == j.imm) = true) (e5 : (i.mask == j.mask) = true) (e6 : (i.shift == j.shift) = false) : Calls Tryd.prog 9 #[inV i] w (RetB (.bool false) w) := by
  obtain ⟨o, d, n, m, a, x, k, h, t, c⟩ := i
  have hsh := shapeI_b o
  have HSh : Hid (∀ w, Tab4 w → Calls Tryd.prog 14 #[.int .i64 o] w (Ret (.int .i64 (shapeI o)) w)) := Lib.hid fun w h => Shape_any o w h
  have HT := Lib.hid hw
  have HBA := Lib.hid ((Below.refl w.heap.size w).alloc (Nat.le_refl _) (.cells (inC ⟨o, d, n, m, a, x, k, h, t, c⟩) 24))
  obtain ⟨o', d', n', m', a', x', k', h', t', c'⟩ := j
  simp only [] at eo e0 e1 e2 e3 e4 e5 e6
  obtain ⟨s, hs⟩ : ∃ s, s = shapeI o := ⟨_, rfl⟩
  have hs1 : 1 ≤ s ∧ s ≤ 16 := by have : shapeI o ≠ 0 := h0; omega
  have q0 : (s != 0) = true := by rw [bne_iff_ne]; omega
  have HOwn : Hid (∀ w, Calls Tryd.prog 18 #[inV ⟨o, d, n, m, a, x, k, h, t, c⟩, .int .i64 s] w (RetB (inV ⟨o', d', n', m', a', x', k', h', t', c'⟩) w)) := Lib.hid fun w => by
    have := own_any s ⟨o, d, n, m, a, x, k, h, t, c⟩ w hs1.1 hs1.2
    rw [hs] at this ⊢
    rwa [he] at this
  rw [← hs] at HSh
  clear hs hsh h0 hw he hs1
  go_enter Tryd.func9, Tryd.ntmps9
  go_wp2_with (first | (go_at_call 14; ((with_reducible refine (HSh.out _ (HT.out.below HBA.out)).mono ?_); rintro e w' ⟨rfl, rfl⟩)))
  obtain ⟨R, hR⟩ : ∃ R, R = w.heap.size := ⟨_, rfl⟩
  obtain ⟨wa, hwa⟩ : ∃ wa, wa = w.alloc (.cells (inC ⟨o, d, n, m, a, x, k, h, t, c⟩) 24) := ⟨_, rfl⟩
  have hten : Ten R ⟨o, d, n, m, a, x, k, h, t, c⟩ wa := by rw [hwa, hR]; exact Ten.made _ _ _
  have HTen := Lib.hid hten
  have hRl : R < wa.heap.size := by rw [hwa, hR]; simp
  rw [← hwa] at HBA
  rw [← hR, ← hwa]
  clear hR hwa hten
  have hx0 : Below wa.heap.size wa wa := Below.refl _ _
  obtain ⟨c0, c1, c2, c3, c4, c5, c6, c7, c8, c9⟩ := HTen.out
  first
  | (go_region_with (go_at_call 18; refine (HOwn.out _).mono ?_; rintro e w' ⟨rfl, hb5⟩; have hx5 : Below wa.heap.size wa w' := ((Below.refl _ wa).drew).trans hb5; obtain ⟨g0, g1, g2, g3, g4, g5, g6, g7, g8, g9⟩ := HTen.out.below hx5 hRl))
  | fail
  all_goals
    go_wp2
    go_ret
    exact retB_bool rfl (after HBA.out hx5)

set_option maxRecDepth 100000 in
set_option maxHeartbeats 4000000 in
theorem Is_ne7 (i j : In) (w : World) (hw : Tab4 w) (h0 : shapeI i.op ≠ 0) (he : ownI (shapeI i.op) i = j) (eo : (i.op == j.op) = true) (e0 : (i.d == j.d) = true) (e1 : (i.n == j.n) = true) (e2 : (i.m == j.m) = true) (e3 : (i.a == j.a) = true) (e4 : (i.imm == j.imm) = true) (e5 : (i.mask == j.mask) = true) (e6 : (i.shift == j.shift) = true) (e7 : (i.amount == j.amount) = false) : Calls Tryd.prog 9 #[inV i] w (RetB (.bool false) w) := by
  obtain ⟨o, d, n, m, a, x, k, h, t, c⟩ := i
  have hsh := shapeI_b o
  have HSh : Hid (∀ w, Tab4 w → Calls Tryd.prog 14 #[.int .i64 o] w (Ret (.int .i64 (shapeI o)) w)) := Lib.hid fun w h => Shape_any o w h
  have HT := Lib.hid hw
  have HBA := Lib.hid ((Below.refl w.heap.size w).alloc (Nat.le_refl _) (.cells (inC ⟨o, d, n, m, a, x, k, h, t, c⟩) 24))
  obtain ⟨o', d', n', m', a', x', k', h', t', c'⟩ := j
  simp only [] at eo e0 e1 e2 e3 e4 e5 e6 e7
  obtain ⟨s, hs⟩ : ∃ s, s = shapeI o := ⟨_, rfl⟩
  have hs1 : 1 ≤ s ∧ s ≤ 16 := by have : shapeI o ≠ 0 := h0; omega
  have q0 : (s != 0) = true := by rw [bne_iff_ne]; omega
  have HOwn : Hid (∀ w, Calls Tryd.prog 18 #[inV ⟨o, d, n, m, a, x, k, h, t, c⟩, .int .i64 s] w (RetB (inV ⟨o', d', n', m', a', x', k', h', t', c'⟩) w)) := Lib.hid fun w => by
    have := own_any s ⟨o, d, n, m, a, x, k, h, t, c⟩ w hs1.1 hs1.2
    rw [hs] at this ⊢
    rwa [he] at this
  rw [← hs] at HSh
  clear hs hsh h0 hw he hs1
  go_enter Tryd.func9, Tryd.ntmps9
  go_wp2_with (first | (go_at_call 14; ((with_reducible refine (HSh.out _ (HT.out.below HBA.out)).mono ?_); rintro e w' ⟨rfl, rfl⟩)))
  obtain ⟨R, hR⟩ : ∃ R, R = w.heap.size := ⟨_, rfl⟩
  obtain ⟨wa, hwa⟩ : ∃ wa, wa = w.alloc (.cells (inC ⟨o, d, n, m, a, x, k, h, t, c⟩) 24) := ⟨_, rfl⟩
  have hten : Ten R ⟨o, d, n, m, a, x, k, h, t, c⟩ wa := by rw [hwa, hR]; exact Ten.made _ _ _
  have HTen := Lib.hid hten
  have hRl : R < wa.heap.size := by rw [hwa, hR]; simp
  rw [← hwa] at HBA
  rw [← hR, ← hwa]
  clear hR hwa hten
  have hx0 : Below wa.heap.size wa wa := Below.refl _ _
  obtain ⟨c0, c1, c2, c3, c4, c5, c6, c7, c8, c9⟩ := HTen.out
  first
  | (go_region_with (go_at_call 18; refine (HOwn.out _).mono ?_; rintro e w' ⟨rfl, hb5⟩; have hx5 : Below wa.heap.size wa w' := ((Below.refl _ wa).drew).trans hb5; obtain ⟨g0, g1, g2, g3, g4, g5, g6, g7, g8, g9⟩ := HTen.out.below hx5 hRl))
  | fail
  all_goals
    go_wp2
    go_ret
    exact retB_bool rfl (after HBA.out hx5)

set_option maxRecDepth 100000 in
set_option maxHeartbeats 4000000 in
theorem Is_ne8 (i j : In) (w : World) (hw : Tab4 w) (h0 : shapeI i.op ≠ 0) (he : ownI (shapeI i.op) i = j) (eo : (i.op == j.op) = true) (e0 : (i.d == j.d) = true) (e1 : (i.n == j.n) = true) (e2 : (i.m == j.m) = true) (e3 : (i.a == j.a) = true) (e4 : (i.imm == j.imm) = true) (e5 : (i.mask == j.mask) = true) (e6 : (i.shift == j.shift) = true) (e7 : (i.amount == j.amount) = true) (e8 : (i.cond == j.cond) = false) : Calls Tryd.prog 9 #[inV i] w (RetB (.bool false) w) := by
  obtain ⟨o, d, n, m, a, x, k, h, t, c⟩ := i
  have hsh := shapeI_b o
  have HSh : Hid (∀ w, Tab4 w → Calls Tryd.prog 14 #[.int .i64 o] w (Ret (.int .i64 (shapeI o)) w)) := Lib.hid fun w h => Shape_any o w h
  have HT := Lib.hid hw
  have HBA := Lib.hid ((Below.refl w.heap.size w).alloc (Nat.le_refl _) (.cells (inC ⟨o, d, n, m, a, x, k, h, t, c⟩) 24))
  obtain ⟨o', d', n', m', a', x', k', h', t', c'⟩ := j
  simp only [] at eo e0 e1 e2 e3 e4 e5 e6 e7 e8
  obtain ⟨s, hs⟩ : ∃ s, s = shapeI o := ⟨_, rfl⟩
  have hs1 : 1 ≤ s ∧ s ≤ 16 := by have : shapeI o ≠ 0 := h0; omega
  have q0 : (s != 0) = true := by rw [bne_iff_ne]; omega
  have HOwn : Hid (∀ w, Calls Tryd.prog 18 #[inV ⟨o, d, n, m, a, x, k, h, t, c⟩, .int .i64 s] w (RetB (inV ⟨o', d', n', m', a', x', k', h', t', c'⟩) w)) := Lib.hid fun w => by
    have := own_any s ⟨o, d, n, m, a, x, k, h, t, c⟩ w hs1.1 hs1.2
    rw [hs] at this ⊢
    rwa [he] at this
  rw [← hs] at HSh
  clear hs hsh h0 hw he hs1
  go_enter Tryd.func9, Tryd.ntmps9
  go_wp2_with (first | (go_at_call 14; ((with_reducible refine (HSh.out _ (HT.out.below HBA.out)).mono ?_); rintro e w' ⟨rfl, rfl⟩)))
  obtain ⟨R, hR⟩ : ∃ R, R = w.heap.size := ⟨_, rfl⟩
  obtain ⟨wa, hwa⟩ : ∃ wa, wa = w.alloc (.cells (inC ⟨o, d, n, m, a, x, k, h, t, c⟩) 24) := ⟨_, rfl⟩
  have hten : Ten R ⟨o, d, n, m, a, x, k, h, t, c⟩ wa := by rw [hwa, hR]; exact Ten.made _ _ _
  have HTen := Lib.hid hten
  have hRl : R < wa.heap.size := by rw [hwa, hR]; simp
  rw [← hwa] at HBA
  rw [← hR, ← hwa]
  clear hR hwa hten
  have hx0 : Below wa.heap.size wa wa := Below.refl _ _
  obtain ⟨c0, c1, c2, c3, c4, c5, c6, c7, c8, c9⟩ := HTen.out
  first
  | (go_region_with (go_at_call 18; refine (HOwn.out _).mono ?_; rintro e w' ⟨rfl, hb5⟩; have hx5 : Below wa.heap.size wa w' := ((Below.refl _ wa).drew).trans hb5; obtain ⟨g0, g1, g2, g3, g4, g5, g6, g7, g8, g9⟩ := HTen.out.below hx5 hRl))
  | fail
  all_goals
    go_wp2
    go_ret
    exact retB_bool rfl (after HBA.out hx5)
end Go.Proofs.YtkcgnmicaigjfaaDoor
