/- inst.Shape, inst.Is. -/
import Derived.Test.YtkcgnmicaigjfaaDoorkIX
import Derived.Deep.RegionWith
namespace Go.Proofs.YtkcgnmicaigjfaaDoor
set_option linter.unusedVariables false
set_option linter.unusedSimpArgs false
open Go.RowKit

def shL : List Int := [0, 1, 1, 1, 2, 2, 2, 2, 3, 3, 3, 3, 4, 4, 4, 4, 5, 5, 5, 5, 6, 6, 7, 7, 8, 8, 9, 10, 10, 11, 11, 12, 9, 9, 13, 13, 13, 14, 15, 16]
def shapeI (op : Int) : Int := if op < 1 ∨ 39 < op then 0 else shL.getD op.toNat 0
abbrev Shapes (w : World) : Prop := ∀ j, j < 40 → w.cell? ⟨1, j, none⟩ = some (.int .i64 (shL.getD j 0))
abbrev Tab4 (w : World) : Prop := Tab w ∧ Shapes w ∧ 1 < w.heap.size
theorem Tab4.below {w w' : World} (h : Tab4 w) (hb : Below w.heap.size w w') : Tab4 w' :=
  ⟨h.1.below hb h.1.2, fun j hj => by rw [hb.cell (p := ⟨1, j, none⟩) h.2.2]; exact h.2.1 j hj, Nat.lt_of_lt_of_le h.2.2 hb.size⟩
theorem shL_b : ∀ j, j < 40 → 0 ≤ shL.getD j 0 ∧ shL.getD j 0 ≤ 16 := by decide +kernel
theorem shapeI_b (op : Int) : 0 ≤ shapeI op ∧ shapeI op ≤ 16 := by
  unfold shapeI
  split
  · omega
  · exact shL_b _ (by omega)
set_option maxHeartbeats 400000 in
theorem Shape_any (op : Int) (w : World) (hw : Tab4 w) : Calls Tryd.prog 14 #[.int .i64 op] w (Ret (.int .i64 (shapeI op)) w) := by
  by_cases c : op < 1 ∨ 39 < op
  · have H : Hid (shapeI op = 0) := Lib.hid (by unfold shapeI; rw [if_pos c])
    clear hw
    rcases c with c | c
    · go_enter Tryd.func14, Tryd.ntmps14
      go_wp2
      go_ret
      exact ret_int H.out.symm
    · have c2 : 1 ≤ op := by omega
      go_enter Tryd.func14, Tryd.ntmps14
      go_wp2
      go_ret
      exact ret_int H.out.symm
  · obtain ⟨k, rfl⟩ := Int.eq_ofNat_of_zero_le (show 0 ≤ op by omega)
    have H : Hid (shapeI (k : Int) = shL.getD k 0) := Lib.hid (by unfold shapeI; rw [if_neg c]; rfl)
    have hcell := hw.2.1 k (by omega)
    have k1 : 1 ≤ k := by omega
    have k2 : k ≤ 39 := by omega
    clear hw c
    generalize shL.getD k 0 = v at *
    go_enter Tryd.func14, Tryd.ntmps14
    go_wp2
    go_ret
    exact ret_int H.out.symm

def sameI (i j : In) : Bool := (i.op == j.op) && (i.d == j.d) && (i.n == j.n) && (i.m == j.m) && (i.a == j.a) && (i.imm == j.imm) && (i.mask == j.mask) && (i.shift == j.shift) && (i.amount == j.amount) && (i.cond == j.cond)
def isI (i : In) : Bool := (shapeI i.op != 0) && sameI i (ownI (shapeI i.op) i) && regsI i && numI (shapeI i.op) i
def Ten (R : Nat) (i : In) (w : World) : Prop := w.cell? ⟨R, 0, none⟩ = some (.int .i64 i.op) ∧ w.cell? ⟨R, 1, none⟩ = some (.int .i64 i.d) ∧ w.cell? ⟨R, 2, none⟩ = some (.int .i64 i.n) ∧ w.cell? ⟨R, 3, none⟩ = some (.int .i64 i.m) ∧ w.cell? ⟨R, 4, none⟩ = some (.int .i64 i.a) ∧ w.cell? ⟨R, 5, none⟩ = some (.int .i64 i.imm) ∧ w.cell? ⟨R, 6, none⟩ = some (.int .u64 i.mask) ∧ w.cell? ⟨R, 7, none⟩ = some (.int .i64 i.shift) ∧ w.cell? ⟨R, 8, none⟩ = some (.int .i64 i.amount) ∧ w.cell? ⟨R, 9, none⟩ = some (.int .i64 i.cond)
theorem Ten.below {R C : Nat} {i : In} {w w' : World} (h : Ten R i w) (hb : Below C w w') (hR : R < C) : Ten R i w' :=
  ⟨(hb.cell (p := ⟨R, 0, none⟩) hR).trans h.1, (hb.cell (p := ⟨R, 1, none⟩) hR).trans h.2.1, (hb.cell (p := ⟨R, 2, none⟩) hR).trans h.2.2.1, (hb.cell (p := ⟨R, 3, none⟩) hR).trans h.2.2.2.1, (hb.cell (p := ⟨R, 4, none⟩) hR).trans h.2.2.2.2.1, (hb.cell (p := ⟨R, 5, none⟩) hR).trans h.2.2.2.2.2.1, (hb.cell (p := ⟨R, 6, none⟩) hR).trans h.2.2.2.2.2.2.1, (hb.cell (p := ⟨R, 7, none⟩) hR).trans h.2.2.2.2.2.2.2.1, (hb.cell (p := ⟨R, 8, none⟩) hR).trans h.2.2.2.2.2.2.2.2.1, (hb.cell (p := ⟨R, 9, none⟩) hR).trans h.2.2.2.2.2.2.2.2.2⟩
theorem Ten.made (w : World) (i : In) (T : TypeId) : Ten w.heap.size i (w.alloc (.cells (inC i) T)) := by
  have e := (MapKept.heap_alloc w (.cells (inC i) T)).1
  refine ⟨?_, ?_, ?_, ?_, ?_, ?_, ?_, ?_, ?_, ?_⟩ <;> (unfold World.cell?; rw [e]; rfl)

set_option maxRecDepth 100000 in
set_option maxHeartbeats 2000000 in
theorem Is_no (i : In) (w : World) (hw : Tab4 w) (h0 : shapeI i.op = 0) : Calls Tryd.prog 9 #[inV i] w (RetB (.bool false) w) := by
  obtain ⟨o, d, n, m, a, x, k, h, t, c⟩ := i
  have hsh := shapeI_b o
  have HSh : Hid (∀ w, Tab4 w → Calls Tryd.prog 14 #[.int .i64 o] w (Ret (.int .i64 (shapeI o)) w)) := Lib.hid fun w h => Shape_any o w h
  have HT := Lib.hid hw
  have HBA := Lib.hid ((Below.refl w.heap.size w).alloc (Nat.le_refl _) (.cells (inC ⟨o, d, n, m, a, x, k, h, t, c⟩) 24))
  obtain ⟨s, hs⟩ : ∃ s, s = shapeI o := ⟨_, rfl⟩
  rw [← hs] at HSh
  obtain rfl : s = 0 := hs.trans h0
  clear hs hsh h0 hw
  go_enter Tryd.func9, Tryd.ntmps9
  go_wp2_with (first | (go_at_call 14; ((with_reducible refine (HSh.out _ (HT.out.below HBA.out)).mono ?_); rintro e w' ⟨rfl, rfl⟩)))
  go_quiet (fail)
  go_wp2
  go_ret
  exact retB_bool rfl (below_drewN HBA.out _)

set_option maxRecDepth 100000 in
set_option maxHeartbeats 4000000 in
theorem Is_yes (i : In) (w : World) (hw : Tab4 w) (h0 : shapeI i.op ≠ 0) (hi : InB i) (he : ownI (shapeI i.op) i = i) : Calls Tryd.prog 9 #[inV i] w (RetB (.bool (regsI i && numI (shapeI i.op) i)) w) := by
  obtain ⟨o, d, n, m, a, x, k, h, t, c⟩ := i
  have hsh := shapeI_b o
  have HSh : Hid (∀ w, Tab4 w → Calls Tryd.prog 14 #[.int .i64 o] w (Ret (.int .i64 (shapeI o)) w)) := Lib.hid fun w h => Shape_any o w h
  have HT := Lib.hid hw
  have HBA := Lib.hid ((Below.refl w.heap.size w).alloc (Nat.le_refl _) (.cells (inC ⟨o, d, n, m, a, x, k, h, t, c⟩) 24))
  obtain ⟨s, hs⟩ : ∃ s, s = shapeI o := ⟨_, rfl⟩
  have hs1 : 1 ≤ s ∧ s ≤ 16 := by have : shapeI o ≠ 0 := h0; omega
  have q0 : (s != 0) = true := by rw [bne_iff_ne]; omega
  have HOwn : Hid (∀ w, Calls Tryd.prog 18 #[inV ⟨o, d, n, m, a, x, k, h, t, c⟩, .int .i64 s] w (RetB (inV ⟨o, d, n, m, a, x, k, h, t, c⟩) w)) := Lib.hid fun w => by
    have := own_any s ⟨o, d, n, m, a, x, k, h, t, c⟩ w hs1.1 hs1.2
    rw [hs] at this ⊢
    rwa [he] at this
  have HReg : Hid (∀ w, Calls Tryd.prog 19 #[inV ⟨o, d, n, m, a, x, k, h, t, c⟩] w (RetB (.bool (regsI ⟨o, d, n, m, a, x, k, h, t, c⟩)) w)) := Lib.hid fun w => registers_any _ w
  have HNum : Hid (∀ w, Tab w → Calls Tryd.prog 20 #[inV ⟨o, d, n, m, a, x, k, h, t, c⟩, .int .i64 s] w (RetB (.bool (numI s ⟨o, d, n, m, a, x, k, h, t, c⟩)) w)) := Lib.hid fun w hT => numbers_any s _ w hs1.1 hs1.2 hi hT
  show Calls Tryd.prog 9 #[inV ⟨o, d, n, m, a, x, k, h, t, c⟩] w (RetB (.bool (regsI ⟨o, d, n, m, a, x, k, h, t, c⟩ && numI (shapeI o) ⟨o, d, n, m, a, x, k, h, t, c⟩)) w)
  rw [← hs]
  rw [← hs] at HSh
  generalize numI s ⟨o, d, n, m, a, x, k, h, t, c⟩ = bn at *
  clear hs hsh h0 hw hi he hs1
  cases hr : regsI ⟨o, d, n, m, a, x, k, h, t, c⟩
  all_goals
    rw [hr] at HReg
    clear hr
    go_enter Tryd.func9, Tryd.ntmps9
    go_wp2_with (first | (go_at_call 14; ((with_reducible refine (HSh.out _ (HT.out.below HBA.out)).mono ?_); rintro e w' ⟨rfl, rfl⟩)))
    obtain ⟨R, hR⟩ : ∃ R, R = w.heap.size := ⟨_, rfl⟩
    obtain ⟨wa, hwa⟩ : ∃ wa, wa = w.alloc (.cells (inC ⟨o, d, n, m, a, x, k, h, t, c⟩) 24) := ⟨_, rfl⟩
    have hten : Ten R ⟨o, d, n, m, a, x, k, h, t, c⟩ wa := by rw [hwa, hR]; exact Ten.made _ _ _
    have HTen := Lib.hid hten
    have hRl : R < wa.heap.size := by rw [hwa, hR]; simp
    rw [← hwa] at HBA
    rw [← hR, ← hwa]
    clear hR hwa hten
    have hx0 : Below wa.heap.size wa wa := Below.refl _ _
    obtain ⟨c0, c1, c2, c3, c4, c5, c6, c7, c8, c9⟩ := HTen.out
    first
    | (go_region_with (first
        | (go_at_call 18; refine (HOwn.out _).mono ?_; rintro e w' ⟨rfl, hb5⟩; have hx5 : Below wa.heap.size wa w' := ((Below.refl _ wa).drew).trans hb5; obtain ⟨g0, g1, g2, g3, g4, g5, g6, g7, g8, g9⟩ := HTen.out.below hx5 hRl)
        | (go_at_call 19; refine (HReg.out _).mono ?_; rintro e w' ⟨rfl, hb6⟩; have hx6 : Below wa.heap.size wa w' := hx5.trans (hb6.mono hx5.size); obtain ⟨k0, k1, k2, k3, k4, k5, k6, k7, k8, k9⟩ := HTen.out.below hx6 hRl)
        | (go_at_call 20; refine (HNum.out _ ((HT.out.1.below HBA.out HT.out.1.2).below hx6 (by have := HT.out.1.2; have := HBA.out.size; omega))).mono ?_; rintro e w' ⟨rfl, hb7⟩; have hx7 : Below wa.heap.size wa w' := hx6.trans (hb7.mono hx6.size))))
    | fail
    all_goals
      go_wp2
      go_ret
      first
      | exact retB_bool rfl (after HBA.out hx7)
      | exact retB_bool rfl (after HBA.out hx6)
end Go.Proofs.YtkcgnmicaigjfaaDoor
