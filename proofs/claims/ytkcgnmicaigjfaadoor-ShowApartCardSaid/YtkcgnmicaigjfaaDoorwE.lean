/- show: what a base is told as. -/
import Derived.Test.YtkcgnmicaigjfaaDoorwD
import Derived.Test.YtkcgnmicaigjfaaDoorhE
namespace Go.Proofs.YtkcgnmicaigjfaaDoor
set_option linter.unusedVariables false
set_option linter.unusedSimpArgs false
open Go.ChangeShapes Go.WideShapes Go.Deep Go.RowKit

theorem contains_mem (l : List Int) (x : Int) : (l.take l.length).contains x = memB l x := by
  rw [List.take_length, Bool.eq_iff_iff, List.contains_iff_mem, memB_iff]
theorem scontains_any (a : Option Addr) (c : Nat) (l : List Int) (x : Int) (w : World) (hn : l.length ≤ 1000) (h : SL encI 1 w w.heap.size a l.length l) :
    Calls Tryd.prog 53 #[.slice a l.length c, .int .i64 x] w (Ret (.bool (memB l x)) w) := by
  by_cases h0 : l = []
  · subst h0
    refine (Tryd.slices_Contains_int_empty a c x w).mono ?_
    rintro e w' ⟨rfl, rfl⟩
    exact ⟨rfl, rfl⟩
  · obtain ⟨b, off, rfl, -, hc⟩ := h.cells h0
    refine (Tryd.slices_Contains_int b off l.length c l x w (Nat.le_refl _) (by omega) (fun j hj => ?_)).mono ?_
    · have := hc j hj 0 (by decide)
      rw [Nat.mul_one, Nat.add_zero] at this
      rw [this, List.getD_eq_getElem?_getD, List.getElem?_eq_getElem hj]; rfl
    · rintro e w' ⟨rfl, rfl⟩
      rw [contains_mem]
      exact ⟨rfl, rfl⟩
theorem reads_len (i : In) : (readsI i).length ≤ 1000 := by
  unfold readsI
  split
  · have := riseK_len (readF i) 32
    exact Nat.le_trans this (by decide)
  · simp
set_option maxRecDepth 100000 in
set_option maxHeartbeats 3000000 in
theorem base_31 (i : In) (hi : InB i) (w : World) (hT : TabS w) (h31 : i.n = 31) : Calls Tryd.prog 44 #[inV i] w (RetB (.string ⟨(bT i).toArray⟩) w) := by
  have HRg : Hid (∀ st u, Below w.heap.size w u → Calls Tryd.prog 42 #[.int .i64 i.n, .bool st] u (RetB (.string ⟨(rT i.n st).toArray⟩) u)) := Lib.hid fun st u hu => sregText_any i.n hi.n st u (hT.next hu)
  have HRd : Hid (∀ u, Below w.heap.size w u → Calls Tryd.prog 54 #[inV i] u (RetL (readsI i) u)) := Lib.hid fun u hu => Reads_any i u (hT.next hu).t4 hi
  have HLn := Lib.hid (reads_len i)
  have HE : Hid ((⟨(bT i).toArray⟩ : ByteArray) = ⟨(rT 31 (memB (readsI i) 31)).toArray⟩) := Lib.hid (by unfold bT nSt; rw [h31]; simp)
  generalize (⟨(bT i).toArray⟩ : ByteArray) = TT at *
  rw [h31] at HRg
  obtain ⟨n0, hn0⟩ : ∃ n0, n0 = i.n := ⟨_, rfl⟩
  generalize readsI i = L at *
  clear hT hi
  obtain ⟨o, d, n, m, a, x, k, h, t, c⟩ := i
  simp only [] at h31 hn0
  subst h31
  clear hn0 n0
  have HB0 := Lib.hid (lit_b w (.cells (inC ⟨o, d, 31, m, a, x, k, h, t, c⟩) 24))
  obtain ⟨W, hW⟩ : ∃ W, W = w.alloc (.cells (inC ⟨o, d, 31, m, a, x, k, h, t, c⟩) 24) := ⟨_, rfl⟩
  obtain ⟨X, hX⟩ : ∃ X, X = w.heap.size := ⟨_, rfl⟩
  have hTen : Ten X ⟨o, d, 31, m, a, x, k, h, t, c⟩ W := by rw [hW, hX]; exact Ten.made _ _ _
  have HXl : Hid (X < W.heap.size) := Lib.hid (by rw [hW, hX]; simp)
  rw [← hW] at HB0
  have HW := Lib.hid hW.symm
  have HX := Lib.hid hX.symm
  obtain ⟨V, hV⟩ : ∃ V, V = W.drew := ⟨_, rfl⟩
  have HV := Lib.hid hV.symm
  have hb1 : Below W.heap.size W V := by rw [hV]; exact (Below.refl _ _).drew
  have HTen : Hid (Ten X ⟨o, d, 31, m, a, x, k, h, t, c⟩ V) := Lib.hid (hTen.below hb1 HXl.out)
  have HB1 := Lib.hid (after HB0.out hb1)
  have HXV : Hid (X < V.heap.size) := Lib.hid (Nat.lt_of_lt_of_le HXl.out hb1.size)
  clear hW hX hTen hV hb1
  try simp only [] at HRg HRd
  go_enter Tryd.func44, Tryd.ntmps44
  go_wp2_with fail
  rw [HW.out, HX.out]
  refine wp_region_held_drew (S := fun v => v.cell? ⟨X, 0, none⟩ = some (.int .i64 o) ∧ v.cell? ⟨X, 1, none⟩ = some (.int .i64 d) ∧ v.cell? ⟨X, 2, none⟩ = some (.int .i64 31) ∧ v.cell? ⟨X, 3, none⟩ = some (.int .i64 m) ∧ v.cell? ⟨X, 4, none⟩ = some (.int .i64 a) ∧ v.cell? ⟨X, 5, none⟩ = some (.int .i64 x) ∧ v.cell? ⟨X, 6, none⟩ = some (.int .u64 k) ∧ v.cell? ⟨X, 7, none⟩ = some (.int .i64 h) ∧ v.cell? ⟨X, 8, none⟩ = some (.int .i64 t) ∧ v.cell? ⟨X, 9, none⟩ = some (.int .i64 c)) (by kernel_rfl) (by rw [HV.out]; exact HTen.out) (fun hHeld => ?_)
  rw [HV.out]
  have hHeld0 : V.cell? ⟨X, 0, none⟩ = some (.int .i64 o) ∧ V.cell? ⟨X, 1, none⟩ = some (.int .i64 d) ∧ V.cell? ⟨X, 2, none⟩ = some (.int .i64 31) ∧ V.cell? ⟨X, 3, none⟩ = some (.int .i64 m) ∧ V.cell? ⟨X, 4, none⟩ = some (.int .i64 a) ∧ V.cell? ⟨X, 5, none⟩ = some (.int .i64 x) ∧ V.cell? ⟨X, 6, none⟩ = some (.int .u64 k) ∧ V.cell? ⟨X, 7, none⟩ = some (.int .i64 h) ∧ V.cell? ⟨X, 8, none⟩ = some (.int .i64 t) ∧ V.cell? ⟨X, 9, none⟩ = some (.int .i64 c) := HTen.out
  clear hHeld
  refine tk 0 ?_ rfl hHeld0 ?_ ?_
  rotate_left 1
  · intro w hS; obtain ⟨_, _, _, _, _, _, _, _, _, _⟩ := hS; go_simp; (try with_reducible rfl)
  (try simp only [Act.put, List.setIfInBounds_toArray, List.set_cons_zero, List.set_cons_succ])
  refine tk 1 ?_ rfl hHeld0 ?_ ?_
  rotate_left 1
  · intro w hS; obtain ⟨_, _, _, _, _, _, _, _, _, _⟩ := hS; go_simp; (try with_reducible rfl)
  (try simp only [Act.put, List.setIfInBounds_toArray, List.set_cons_zero, List.set_cons_succ])
  refine tk 2 ?_ rfl hHeld0 ?_ ?_
  rotate_left 1
  · intro w hS; obtain ⟨_, _, _, _, _, _, _, _, _, _⟩ := hS; go_simp; (try with_reducible rfl)
  (try simp only [Act.put, List.setIfInBounds_toArray, List.set_cons_zero, List.set_cons_succ])
  refine tk 3 ?_ rfl hHeld0 ?_ ?_
  rotate_left 1
  · intro w hS; obtain ⟨_, _, _, _, _, _, _, _, _, _⟩ := hS; go_simp; (try with_reducible rfl)
  (try simp only [Act.put, List.setIfInBounds_toArray, List.set_cons_zero, List.set_cons_succ])
  refine tk 4 ?_ rfl hHeld0 ?_ ?_
  rotate_left 1
  · intro w hS; obtain ⟨_, _, _, _, _, _, _, _, _, _⟩ := hS; go_simp; (try with_reducible rfl)
  (try simp only [Act.put, List.setIfInBounds_toArray, List.set_cons_zero, List.set_cons_succ])
  refine tk 5 ?_ rfl hHeld0 ?_ ?_
  rotate_left 1
  · intro w hS; obtain ⟨_, _, _, _, _, _, _, _, _, _⟩ := hS; go_simp; (try with_reducible rfl)
  (try simp only [Act.put, List.setIfInBounds_toArray, List.set_cons_zero, List.set_cons_succ])
  refine tk 6 ?_ rfl hHeld0 ?_ ?_
  rotate_left 1
  · intro w hS; obtain ⟨_, _, _, _, _, _, _, _, _, _⟩ := hS; go_simp; (try with_reducible rfl)
  (try simp only [Act.put, List.setIfInBounds_toArray, List.set_cons_zero, List.set_cons_succ])
  refine rd 7 rfl (fun K hK => ?_)
  go_simp
  go_wp2_with (go_at_call 54; refine (HRd.out V HB1.out).mono ?_; rintro e u1 ⟨ra, rc, rfl, hsl, -, hb⟩)
  have HB2 := Lib.hid (after HB1.out hb)
  have HT2 := Lib.hid (HTen.out.below hb HXV.out)
  have HSl := Lib.hid hsl
  clear hb hsl
  refine hK.out _ _ (HT2.out) (fun hHeld1 => ?_)
  clear hK K
  refine rd 8 rfl (fun K hK => ?_)
  go_simp
  go_wp2_with (go_at_call 53; refine (scontains_any ra rc L 31 u1 HLn.out HSl.out).mono ?_; rintro e u2 ⟨rfl, rfl⟩)
  refine hK.out _ _ (HT2.out) (fun hHeld2 => ?_)
  clear hK K
  refine rd 9 rfl (fun K hK => ?_)
  go_simp
  refine hK.out _ _ (HT2.out) (fun hHeld3 => ?_)
  clear hK K
  refine rd 10 rfl (fun K hK => ?_)
  go_simp
  go_wp2_with (go_at_call 42; refine (HRg.out (memB L 31) u1 HB2.out).mono ?_; rintro e u3 ⟨rfl, hb⟩)
  have HB3 := Lib.hid (after HB2.out hb)
  have HT3 := Lib.hid (HT2.out.below hb (cell_lt hHeld1.1))
  clear hb
  refine hK.out _ _ (HT3.out) (fun hHeld4 => ?_)
  clear hK K
  refine rd 11 rfl (fun K hK => ?_)
  go_simp
  refine hK.out _ _ (HT3.out) (fun hHeld5 => ?_)
  clear hK K
  refine wpAnyH_done (by kernel_rfl) ?_ _
  clear hHeld0 hHeld1 hHeld2 hHeld3 hHeld4 hHeld5
  go_wp2
  go_ret
  exact ⟨by rw [HE.out]; rfl, HB3.out⟩
set_option maxRecDepth 100000 in
set_option maxHeartbeats 3000000 in
theorem base_n (i : In) (hi : InB i) (w : World) (hT : TabS w) (h31 : i.n ≠ 31) : Calls Tryd.prog 44 #[inV i] w (RetB (.string ⟨(bT i).toArray⟩) w) := by
  have HRg : Hid (∀ st u, Below w.heap.size w u → Calls Tryd.prog 42 #[.int .i64 i.n, .bool st] u (RetB (.string ⟨(rT i.n st).toArray⟩) u)) := Lib.hid fun st u hu => sregText_any i.n hi.n st u (hT.next hu)
  have HRd : Hid (∀ u, Below w.heap.size w u → Calls Tryd.prog 54 #[inV i] u (RetL (readsI i) u)) := Lib.hid fun u hu => Reads_any i u (hT.next hu).t4 hi
  have HLn := Lib.hid (reads_len i)
  have HE : Hid ((⟨(bT i).toArray⟩ : ByteArray) = ⟨(rT i.n false).toArray⟩) := Lib.hid (by unfold bT nSt; rw [decide_eq_false h31]; rfl)
  have q31 : (i.n == 31) = false := by rw [beq_eq_false_iff_ne]; exact h31
  clear h31
  generalize (⟨(bT i).toArray⟩ : ByteArray) = TT at *
  generalize readsI i = L at *
  clear hT hi
  obtain ⟨o, d, n, m, a, x, k, h, t, c⟩ := i
  have HB0 := Lib.hid (lit_b w (.cells (inC ⟨o, d, n, m, a, x, k, h, t, c⟩) 24))
  obtain ⟨W, hW⟩ : ∃ W, W = w.alloc (.cells (inC ⟨o, d, n, m, a, x, k, h, t, c⟩) 24) := ⟨_, rfl⟩
  obtain ⟨X, hX⟩ : ∃ X, X = w.heap.size := ⟨_, rfl⟩
  have hTen : Ten X ⟨o, d, n, m, a, x, k, h, t, c⟩ W := by rw [hW, hX]; exact Ten.made _ _ _
  have HXl : Hid (X < W.heap.size) := Lib.hid (by rw [hW, hX]; simp)
  rw [← hW] at HB0
  have HW := Lib.hid hW.symm
  have HX := Lib.hid hX.symm
  obtain ⟨V, hV⟩ : ∃ V, V = W.drew := ⟨_, rfl⟩
  have HV := Lib.hid hV.symm
  have hb1 : Below W.heap.size W V := by rw [hV]; exact (Below.refl _ _).drew
  have HTen : Hid (Ten X ⟨o, d, n, m, a, x, k, h, t, c⟩ V) := Lib.hid (hTen.below hb1 HXl.out)
  have HB1 := Lib.hid (after HB0.out hb1)
  have HXV : Hid (X < V.heap.size) := Lib.hid (Nat.lt_of_lt_of_le HXl.out hb1.size)
  clear hW hX hTen hV hb1
  simp only [] at q31 HE
  go_enter Tryd.func44, Tryd.ntmps44
  go_wp2_with fail
  rw [HW.out, HX.out]
  refine wp_region_held_drew (S := fun v => v.cell? ⟨X, 0, none⟩ = some (.int .i64 o) ∧ v.cell? ⟨X, 1, none⟩ = some (.int .i64 d) ∧ v.cell? ⟨X, 2, none⟩ = some (.int .i64 n) ∧ v.cell? ⟨X, 3, none⟩ = some (.int .i64 m) ∧ v.cell? ⟨X, 4, none⟩ = some (.int .i64 a) ∧ v.cell? ⟨X, 5, none⟩ = some (.int .i64 x) ∧ v.cell? ⟨X, 6, none⟩ = some (.int .u64 k) ∧ v.cell? ⟨X, 7, none⟩ = some (.int .i64 h) ∧ v.cell? ⟨X, 8, none⟩ = some (.int .i64 t) ∧ v.cell? ⟨X, 9, none⟩ = some (.int .i64 c)) (by kernel_rfl) (by rw [HV.out]; exact HTen.out) (fun hHeld => ?_)
  rw [HV.out]
  have hHeld0 : V.cell? ⟨X, 0, none⟩ = some (.int .i64 o) ∧ V.cell? ⟨X, 1, none⟩ = some (.int .i64 d) ∧ V.cell? ⟨X, 2, none⟩ = some (.int .i64 n) ∧ V.cell? ⟨X, 3, none⟩ = some (.int .i64 m) ∧ V.cell? ⟨X, 4, none⟩ = some (.int .i64 a) ∧ V.cell? ⟨X, 5, none⟩ = some (.int .i64 x) ∧ V.cell? ⟨X, 6, none⟩ = some (.int .u64 k) ∧ V.cell? ⟨X, 7, none⟩ = some (.int .i64 h) ∧ V.cell? ⟨X, 8, none⟩ = some (.int .i64 t) ∧ V.cell? ⟨X, 9, none⟩ = some (.int .i64 c) := HTen.out
  clear hHeld
  refine tk 0 ?_ rfl hHeld0 ?_ ?_
  rotate_left 1
  · intro w hS; obtain ⟨_, _, _, _, _, _, _, _, _, _⟩ := hS; go_simp; (try with_reducible rfl)
  (try simp only [Act.put, List.setIfInBounds_toArray, List.set_cons_zero, List.set_cons_succ])
  refine tk 1 ?_ rfl hHeld0 ?_ ?_
  rotate_left 1
  · intro w hS; obtain ⟨_, _, _, _, _, _, _, _, _, _⟩ := hS; go_simp; (try with_reducible rfl)
  (try simp only [Act.put, List.setIfInBounds_toArray, List.set_cons_zero, List.set_cons_succ])
  refine tk 2 ?_ rfl hHeld0 ?_ ?_
  rotate_left 1
  · intro w hS; obtain ⟨_, _, _, _, _, _, _, _, _, _⟩ := hS; go_simp; (try with_reducible rfl)
  (try simp only [Act.put, List.setIfInBounds_toArray, List.set_cons_zero, List.set_cons_succ])
  refine tk 3 ?_ rfl hHeld0 ?_ ?_
  rotate_left 1
  · intro w hS; obtain ⟨_, _, _, _, _, _, _, _, _, _⟩ := hS; go_simp; (try with_reducible rfl)
  (try simp only [Act.put, List.setIfInBounds_toArray, List.set_cons_zero, List.set_cons_succ])
  refine tk 4 ?_ rfl hHeld0 ?_ ?_
  rotate_left 1
  · intro w hS; obtain ⟨_, _, _, _, _, _, _, _, _, _⟩ := hS; go_simp; (try with_reducible rfl)
  (try simp only [Act.put, List.setIfInBounds_toArray, List.set_cons_zero, List.set_cons_succ])
  refine tk 5 ?_ rfl hHeld0 ?_ ?_
  rotate_left 1
  · intro w hS; obtain ⟨_, _, _, _, _, _, _, _, _, _⟩ := hS; go_simp; (try with_reducible rfl)
  (try simp only [Act.put, List.setIfInBounds_toArray, List.set_cons_zero, List.set_cons_succ])
  refine sk 6 rfl hHeld0 ?_
  refine sk 7 rfl hHeld0 ?_
  refine sk 8 rfl hHeld0 ?_
  (try simp only [Act.put, List.setIfInBounds_toArray, List.set_cons_zero, List.set_cons_succ])
  refine rd 9 rfl (fun K hK => ?_)
  go_simp
  refine hK.out _ _ (HTen.out) (fun hHeld3 => ?_)
  clear hK K
  refine rd 10 rfl (fun K hK => ?_)
  go_simp
  go_wp2_with (go_at_call 42; refine (HRg.out false V HB1.out).mono ?_; rintro e u3 ⟨rfl, hb⟩)
  have HB3 := Lib.hid (after HB1.out hb)
  have HT3 := Lib.hid (HTen.out.below hb HXV.out)
  clear hb
  refine hK.out _ _ (HT3.out) (fun hHeld4 => ?_)
  clear hK K
  refine rd 11 rfl (fun K hK => ?_)
  go_simp
  refine hK.out _ _ (HT3.out) (fun hHeld5 => ?_)
  clear hK K
  refine wpAnyH_done (by kernel_rfl) ?_ _
  clear hHeld0 hHeld3 hHeld4 hHeld5
  go_wp2
  go_ret
  exact ⟨by rw [HE.out]; rfl, HB3.out⟩
theorem baseText_any (i : In) (hi : InB i) (w : World) (hT : TabS w) : Calls Tryd.prog 44 #[inV i] w (RetB (.string ⟨(bT i).toArray⟩) w) := by
  by_cases h : i.n = 31
  · exact base_31 i hi w hT h
  · exact base_n i hi w hT h
end Go.Proofs.YtkcgnmicaigjfaaDoor
