/- code.fields. -/
import Derived.Test.YtdeigbdcipkaaaaGreatDoorC7
namespace Go.Proofs.YtdeigbdcipkaaaaGreatDoor
set_option linter.unusedVariables false
set_option linter.unusedSimpArgs false
open Go.RowKit

def cellsF (l : List F3) : List Value := l.flatMap fun f => [.int .i64 f.1, .int .i64 f.2.1, .int .u32 f.2.2]
theorem cellsF_get (l : List F3) (k : Nat) (h : k < l.length) : (cellsF l)[k * 3]? = some (.int .i64 l[k].1) ∧ (cellsF l)[k * 3 + 1]? = some (.int .i64 l[k].2.1) ∧ (cellsF l)[k * 3 + 2]? = some (.int .u32 l[k].2.2) := by
  have g := flat_get (enc := fun f : F3 => [Value.int .i64 f.1, .int .i64 f.2.1, .int .u32 f.2.2]) (sz := 3) (fun _ => rfl) l k h
  exact ⟨(g 0 (by decide)).trans rfl, (g 1 (by decide)).trans rfl, (g 2 (by decide)).trans rfl⟩
/-- A row of fields, just laid. -/
theorem FS.lit (w : World) (T : TypeId) (l : List F3) (hwf : ∀ f ∈ l, 0 ≤ f.2.2 ∧ f.2.2 < 4294967296 ∧ -9223372036854775808 ≤ f.1 ∧ f.1 ≤ 9223372036854775807 ∧ -9223372036854775808 ≤ f.2.1 ∧ f.2.1 ≤ 9223372036854775807)
    (cs : Array Value) (hcs : cs.toList = cellsF l) (B : Nat) (hB : w.heap.size = B) : FS (w.alloc (.cells cs T)) (w.alloc (.cells cs T)).heap.size (some ⟨B, 0, none⟩) l.length l := by
  subst hB
  refine ⟨rfl, hwf, fun _ => ⟨w.heap.size, 0, rfl, by simp, fun k hk => ?_⟩⟩
  have e := (MapKept.heap_alloc w (.cells cs T)).1
  have hc : ∀ j, (w.alloc (.cells cs T)).cell? ⟨w.heap.size, j, none⟩ = (cellsF l)[j]? := by
    intro j
    unfold World.cell?
    rw [e]
    simp only
    rw [← hcs]; simp
  obtain ⟨g0, g1, g2⟩ := cellsF_get l k hk
  refine ⟨?_, ?_, ?_⟩
  · rw [show 0 + k * 3 = k * 3 from by omega, hc]; exact g0
  · rw [show 0 + k * 3 + 1 = k * 3 + 1 from by omega, hc]; exact g1
  · rw [show 0 + k * 3 + 2 = k * 3 + 2 from by omega, hc]; exact g2
/-- A row of fields is returned, made anew. -/
def RetF (l : List F3) (w : World) (e : Ending) (w' : World) : Prop :=
  ∃ a c, e = .returned (.slice a l.length c) ∧ FS w' w'.heap.size a l.length l ∧ Below w.heap.size w w'
theorem wfF {l : List F3} (h1 : okF l) (h2 : ∀ f ∈ l, rightB f.1 f.2.1 = true) : ∀ f ∈ l, 0 ≤ f.2.2 ∧ f.2.2 < 4294967296 ∧ -9223372036854775808 ≤ f.1 ∧ f.1 ≤ 9223372036854775807 ∧ -9223372036854775808 ≤ f.2.1 ∧ f.2.1 ≤ 9223372036854775807 := by
  intro f hf
  have a := h1 f hf
  have b := h2 f hf
  simp only [rightB, decide_eq_true_eq] at b
  have hp := pow32 f.2.1 (by omega)
  omega

theorem bel4 (w : World) (a b c d : Obj) : Below w.heap.size w ((((w.alloc a).alloc b).alloc c).alloc d) :=
  ((((Below.refl w.heap.size w).alloc (Nat.le_refl _) _).alloc (by simp) _).alloc (by simp; omega) _).alloc (by simp; omega) _
theorem bel5 (w : World) (a b c d e : Obj) : Below w.heap.size w (((((w.alloc a).alloc b).alloc c).alloc d).alloc e) := (bel4 w a b c d).alloc (by simp; omega) _
theorem siz4 (w : World) (a b c d : Obj) : ((((w.alloc a).alloc b).alloc c).alloc d).heap.size = w.heap.size + 1 + 1 + 1 + 1 := by simp

set_option maxRecDepth 100000 in
set_option maxHeartbeats 4000000 in
theorem fields1 (o d n m a x k h t c : Int) (w : World) (hw : Tab6 w) (hs : shapeI o = 1) (hI : isI ⟨o, d, n, m, a, x, k, h, t, c⟩ = true) (hi : InB ⟨o, d, n, m, a, x, k, h, t, c⟩) :
    Calls Tryz.prog 39 #[inV ⟨o, d, n, m, a, x, k, h, t, c⟩] w (RetF (fldS 1 ⟨o, d, n, m, a, x, k, h, t, c⟩) w) := by
  have hf := facts1 hs hI
  have HWF := Lib.hid (wfF (enc1 hs hI).1 (apartL_right _ _ (apart_t 1 _ (by omega)).1))
  have HSh : Hid (∀ w, Tab6 w → Calls Tryz.prog 51 #[.int .i64 o] w (Ret (.int .i64 1) w)) := Lib.hid fun w h => by have := Shape_any o w h.1; rwa [hs] at this
  have HT := Lib.hid hw
  clear hw hs hI hi
  have tq : t.tdiv 16 = t / 16 := Int.tdiv_eq_ediv_of_nonneg (by omega)
  have TQ := Lib.hid tq
  clear tq
  go_enter Tryz.func39, Tryz.ntmps39
  go_wp2_with (first | (go_at_call 51; ((with_reducible refine (HSh.out _ (HT.out.below (bel4 _ _ _ _ _))).mono ?_); rintro e w' ⟨rfl, rfl⟩)))
  go_ret
  refine ⟨some ⟨_, 0, none⟩, _, rfl, ?_, bel5 _ _ _ _ _ _⟩
  refine FS.lit _ _ _ HWF.out _ ?_ _ (siz4 _ _ _ _ _)
  simp [cellsF, fldS, TQ.out]

set_option maxRecDepth 100000 in
set_option maxHeartbeats 4000000 in
theorem fields2 (o d n m a x k h t c : Int) (w : World) (hw : Tab6 w) (hs : shapeI o = 2) (hI : isI ⟨o, d, n, m, a, x, k, h, t, c⟩ = true) (hi : InB ⟨o, d, n, m, a, x, k, h, t, c⟩) :
    Calls Tryz.prog 39 #[inV ⟨o, d, n, m, a, x, k, h, t, c⟩] w (RetF (fldS 2 ⟨o, d, n, m, a, x, k, h, t, c⟩) w) := by
  have hf := facts2 hs hI
  have HWF := Lib.hid (wfF (enc2 hs hI).1 (apartL_right _ _ (apart_t 2 _ (by omega)).1))
  have HSh : Hid (∀ w, Tab6 w → Calls Tryz.prog 51 #[.int .i64 o] w (Ret (.int .i64 2) w)) := Lib.hid fun w h => by have := Shape_any o w h.1; rwa [hs] at this
  have HT := Lib.hid hw
  clear hw hs hI hi
  have tq : t.tdiv 12 = t / 12 := Int.tdiv_eq_ediv_of_nonneg (by omega)
  have TQ := Lib.hid tq
  clear tq
  go_enter Tryz.func39, Tryz.ntmps39
  go_wp2_with (first | (go_at_call 51; ((with_reducible refine (HSh.out _ (HT.out.below (bel4 _ _ _ _ _))).mono ?_); rintro e w' ⟨rfl, rfl⟩)))
  go_ret
  refine ⟨some ⟨_, 0, none⟩, _, rfl, ?_, bel5 _ _ _ _ _ _⟩
  refine FS.lit _ _ _ HWF.out _ ?_ _ (siz4 _ _ _ _ _)
  simp [cellsF, fldS, TQ.out]

set_option maxRecDepth 100000 in
set_option maxHeartbeats 4000000 in
theorem fields4 (o d n m a x k h t c : Int) (w : World) (hw : Tab6 w) (hs : shapeI o = 4) (hI : isI ⟨o, d, n, m, a, x, k, h, t, c⟩ = true) (hi : InB ⟨o, d, n, m, a, x, k, h, t, c⟩) :
    Calls Tryz.prog 39 #[inV ⟨o, d, n, m, a, x, k, h, t, c⟩] w (RetF (fldS 4 ⟨o, d, n, m, a, x, k, h, t, c⟩) w) := by
  have hf := facts4 hs hI
  have HWF := Lib.hid (wfF (enc4 hs hI).1 (apartL_right _ _ (apart_t 4 _ (by omega)).1))
  have HSh : Hid (∀ w, Tab6 w → Calls Tryz.prog 51 #[.int .i64 o] w (Ret (.int .i64 4) w)) := Lib.hid fun w h => by have := Shape_any o w h.1; rwa [hs] at this
  have HT := Lib.hid hw
  clear hw hs hI hi
  go_enter Tryz.func39, Tryz.ntmps39
  go_wp2_with (first | (go_at_call 51; ((with_reducible refine (HSh.out _ (HT.out.below (bel4 _ _ _ _ _))).mono ?_); rintro e w' ⟨rfl, rfl⟩)))
  go_ret
  refine ⟨some ⟨_, 0, none⟩, _, rfl, ?_, bel5 _ _ _ _ _ _⟩
  refine FS.lit _ _ _ HWF.out _ ?_ _ (siz4 _ _ _ _ _)
  simp [cellsF, fldS]

set_option maxRecDepth 100000 in
set_option maxHeartbeats 4000000 in
theorem fields5 (o d n m a x k h t c : Int) (w : World) (hw : Tab6 w) (hs : shapeI o = 5) (hI : isI ⟨o, d, n, m, a, x, k, h, t, c⟩ = true) (hi : InB ⟨o, d, n, m, a, x, k, h, t, c⟩) :
    Calls Tryz.prog 39 #[inV ⟨o, d, n, m, a, x, k, h, t, c⟩] w (RetF (fldS 5 ⟨o, d, n, m, a, x, k, h, t, c⟩) w) := by
  have hf := facts5 hs hI
  have HWF := Lib.hid (wfF (enc5 hs hI).1 (apartL_right _ _ (apart_t 5 _ (by omega)).1))
  have HSh : Hid (∀ w, Tab6 w → Calls Tryz.prog 51 #[.int .i64 o] w (Ret (.int .i64 5) w)) := Lib.hid fun w h => by have := Shape_any o w h.1; rwa [hs] at this
  have HT := Lib.hid hw
  clear hw hs hI hi
  go_enter Tryz.func39, Tryz.ntmps39
  go_wp2_with (first | (go_at_call 51; ((with_reducible refine (HSh.out _ (HT.out.below (bel4 _ _ _ _ _))).mono ?_); rintro e w' ⟨rfl, rfl⟩)))
  go_ret
  refine ⟨some ⟨_, 0, none⟩, _, rfl, ?_, bel5 _ _ _ _ _ _⟩
  refine FS.lit _ _ _ HWF.out _ ?_ _ (siz4 _ _ _ _ _)
  simp [cellsF, fldS]

set_option maxRecDepth 100000 in
set_option maxHeartbeats 4000000 in
theorem fields6 (o d n m a x k h t c : Int) (w : World) (hw : Tab6 w) (hs : shapeI o = 6) (hI : isI ⟨o, d, n, m, a, x, k, h, t, c⟩ = true) (hi : InB ⟨o, d, n, m, a, x, k, h, t, c⟩) :
    Calls Tryz.prog 39 #[inV ⟨o, d, n, m, a, x, k, h, t, c⟩] w (RetF (fldS 6 ⟨o, d, n, m, a, x, k, h, t, c⟩) w) := by
  have hf := facts6 hs hI
  have HWF := Lib.hid (wfF (enc6 hs hI).1 (apartL_right _ _ (apart_t 6 _ (by omega)).1))
  have HSh : Hid (∀ w, Tab6 w → Calls Tryz.prog 51 #[.int .i64 o] w (Ret (.int .i64 6) w)) := Lib.hid fun w h => by have := Shape_any o w h.1; rwa [hs] at this
  have HT := Lib.hid hw
  clear hw hs hI hi
  go_enter Tryz.func39, Tryz.ntmps39
  go_wp2_with (first | (go_at_call 51; ((with_reducible refine (HSh.out _ (HT.out.below (bel4 _ _ _ _ _))).mono ?_); rintro e w' ⟨rfl, rfl⟩)))
  go_ret
  refine ⟨some ⟨_, 0, none⟩, _, rfl, ?_, bel5 _ _ _ _ _ _⟩
  refine FS.lit _ _ _ HWF.out _ ?_ _ (siz4 _ _ _ _ _)
  simp [cellsF, fldS]

set_option maxRecDepth 100000 in
set_option maxHeartbeats 4000000 in
theorem fields7 (o d n m a x k h t c : Int) (w : World) (hw : Tab6 w) (hs : shapeI o = 7) (hI : isI ⟨o, d, n, m, a, x, k, h, t, c⟩ = true) (hi : InB ⟨o, d, n, m, a, x, k, h, t, c⟩) :
    Calls Tryz.prog 39 #[inV ⟨o, d, n, m, a, x, k, h, t, c⟩] w (RetF (fldS 7 ⟨o, d, n, m, a, x, k, h, t, c⟩) w) := by
  have hf := facts7 hs hI
  have HWF := Lib.hid (wfF (enc7 hs hI).1 (apartL_right _ _ (apart_t 7 _ (by omega)).1))
  have HSh : Hid (∀ w, Tab6 w → Calls Tryz.prog 51 #[.int .i64 o] w (Ret (.int .i64 7) w)) := Lib.hid fun w h => by have := Shape_any o w h.1; rwa [hs] at this
  have HT := Lib.hid hw
  clear hw hs hI hi
  have tq : x.tdiv 8 = x / 8 := Int.tdiv_eq_ediv_of_nonneg (by omega)
  have TQ := Lib.hid tq
  clear tq
  go_enter Tryz.func39, Tryz.ntmps39
  go_wp2_with (first | (go_at_call 51; ((with_reducible refine (HSh.out _ (HT.out.below (bel4 _ _ _ _ _))).mono ?_); rintro e w' ⟨rfl, rfl⟩)))
  go_ret
  refine ⟨some ⟨_, 0, none⟩, _, rfl, ?_, bel5 _ _ _ _ _ _⟩
  refine FS.lit _ _ _ HWF.out _ ?_ _ (siz4 _ _ _ _ _)
  simp [cellsF, fldS, TQ.out]

set_option maxRecDepth 100000 in
set_option maxHeartbeats 4000000 in
theorem fields8 (o d n m a x k h t c : Int) (w : World) (hw : Tab6 w) (hs : shapeI o = 8) (hI : isI ⟨o, d, n, m, a, x, k, h, t, c⟩ = true) (hi : InB ⟨o, d, n, m, a, x, k, h, t, c⟩) :
    Calls Tryz.prog 39 #[inV ⟨o, d, n, m, a, x, k, h, t, c⟩] w (RetF (fldS 8 ⟨o, d, n, m, a, x, k, h, t, c⟩) w) := by
  have hf := facts8 hs hI
  have HWF := Lib.hid (wfF (enc8 hs hI).1 (apartL_right _ _ (apart_t 8 _ (by omega)).1))
  have HSh : Hid (∀ w, Tab6 w → Calls Tryz.prog 51 #[.int .i64 o] w (Ret (.int .i64 8) w)) := Lib.hid fun w h => by have := Shape_any o w h.1; rwa [hs] at this
  have HT := Lib.hid hw
  clear hw hs hI hi
  go_enter Tryz.func39, Tryz.ntmps39
  go_wp2_with (first | (go_at_call 51; ((with_reducible refine (HSh.out _ (HT.out.below (bel4 _ _ _ _ _))).mono ?_); rintro e w' ⟨rfl, rfl⟩)))
  go_ret
  refine ⟨some ⟨_, 0, none⟩, _, rfl, ?_, bel5 _ _ _ _ _ _⟩
  refine FS.lit _ _ _ HWF.out _ ?_ _ (siz4 _ _ _ _ _)
  simp [cellsF, fldS]

set_option maxRecDepth 100000 in
set_option maxHeartbeats 4000000 in
theorem fields13 (o d n m a x k h t c : Int) (w : World) (hw : Tab6 w) (hs : shapeI o = 13) (hI : isI ⟨o, d, n, m, a, x, k, h, t, c⟩ = true) (hi : InB ⟨o, d, n, m, a, x, k, h, t, c⟩) :
    Calls Tryz.prog 39 #[inV ⟨o, d, n, m, a, x, k, h, t, c⟩] w (RetF (fldS 13 ⟨o, d, n, m, a, x, k, h, t, c⟩) w) := by
  have hf := facts13 hs hI
  have HWF := Lib.hid (wfF (enc13 hs hI).1 (apartL_right _ _ (apart_t 13 _ (by omega)).1))
  have HSh : Hid (∀ w, Tab6 w → Calls Tryz.prog 51 #[.int .i64 o] w (Ret (.int .i64 13) w)) := Lib.hid fun w h => by have := Shape_any o w h.1; rwa [hs] at this
  have HT := Lib.hid hw
  clear hw hs hI hi
  go_enter Tryz.func39, Tryz.ntmps39
  go_wp2_with (first | (go_at_call 51; ((with_reducible refine (HSh.out _ (HT.out.below (bel4 _ _ _ _ _))).mono ?_); rintro e w' ⟨rfl, rfl⟩)))
  go_ret
  refine ⟨some ⟨_, 0, none⟩, _, rfl, ?_, bel5 _ _ _ _ _ _⟩
  refine FS.lit _ _ _ HWF.out _ ?_ _ (siz4 _ _ _ _ _)
  simp [cellsF, fldS]

set_option maxRecDepth 100000 in
set_option maxHeartbeats 4000000 in
theorem fields14 (o d n m a x k h t c : Int) (w : World) (hw : Tab6 w) (hs : shapeI o = 14) (hI : isI ⟨o, d, n, m, a, x, k, h, t, c⟩ = true) (hi : InB ⟨o, d, n, m, a, x, k, h, t, c⟩) :
    Calls Tryz.prog 39 #[inV ⟨o, d, n, m, a, x, k, h, t, c⟩] w (RetF (fldS 14 ⟨o, d, n, m, a, x, k, h, t, c⟩) w) := by
  have hf := facts14 hs hI
  have HWF := Lib.hid (wfF (enc14 hs hI).1 (apartL_right _ _ (apart_t 14 _ (by omega)).1))
  have HSh : Hid (∀ w, Tab6 w → Calls Tryz.prog 51 #[.int .i64 o] w (Ret (.int .i64 14) w)) := Lib.hid fun w h => by have := Shape_any o w h.1; rwa [hs] at this
  have HT := Lib.hid hw
  clear hw hs hI hi
  go_enter Tryz.func39, Tryz.ntmps39
  go_wp2_with (first | (go_at_call 51; ((with_reducible refine (HSh.out _ (HT.out.below (bel4 _ _ _ _ _))).mono ?_); rintro e w' ⟨rfl, rfl⟩)))
  go_ret
  refine ⟨some ⟨_, 0, none⟩, _, rfl, ?_, bel5 _ _ _ _ _ _⟩
  refine FS.lit _ _ _ HWF.out _ ?_ _ (siz4 _ _ _ _ _)
  simp [cellsF, fldS]

set_option maxRecDepth 100000 in
set_option maxHeartbeats 4000000 in
theorem fields15 (o d n m a x k h t c : Int) (w : World) (hw : Tab6 w) (hs : shapeI o = 15) (hI : isI ⟨o, d, n, m, a, x, k, h, t, c⟩ = true) (hi : InB ⟨o, d, n, m, a, x, k, h, t, c⟩) :
    Calls Tryz.prog 39 #[inV ⟨o, d, n, m, a, x, k, h, t, c⟩] w (RetF (fldS 15 ⟨o, d, n, m, a, x, k, h, t, c⟩) w) := by
  have hf := facts15 hs hI
  have HWF := Lib.hid (wfF (enc15 hs hI).1 (apartL_right _ _ (apart_t 15 _ (by omega)).1))
  have HSh : Hid (∀ w, Tab6 w → Calls Tryz.prog 51 #[.int .i64 o] w (Ret (.int .i64 15) w)) := Lib.hid fun w h => by have := Shape_any o w h.1; rwa [hs] at this
  have HT := Lib.hid hw
  clear hw hs hI hi
  go_enter Tryz.func39, Tryz.ntmps39
  go_wp2_with (first | (go_at_call 51; ((with_reducible refine (HSh.out _ (HT.out.below (bel4 _ _ _ _ _))).mono ?_); rintro e w' ⟨rfl, rfl⟩)))
  go_ret
  exact ⟨none, 0, rfl, ⟨rfl, HWF.out, fun h => (h rfl).elim⟩, bel4 _ _ _ _ _⟩

set_option maxRecDepth 100000 in
set_option maxHeartbeats 4000000 in
theorem fields16 (o d n m a x k h t c : Int) (w : World) (hw : Tab6 w) (hs : shapeI o = 16) (hI : isI ⟨o, d, n, m, a, x, k, h, t, c⟩ = true) (hi : InB ⟨o, d, n, m, a, x, k, h, t, c⟩) :
    Calls Tryz.prog 39 #[inV ⟨o, d, n, m, a, x, k, h, t, c⟩] w (RetF (fldS 16 ⟨o, d, n, m, a, x, k, h, t, c⟩) w) := by
  have hf := facts16 hs hI
  have HWF := Lib.hid (wfF (enc16 hs hI).1 (apartL_right _ _ (apart_t 16 _ (by omega)).1))
  have HSh : Hid (∀ w, Tab6 w → Calls Tryz.prog 51 #[.int .i64 o] w (Ret (.int .i64 16) w)) := Lib.hid fun w h => by have := Shape_any o w h.1; rwa [hs] at this
  have HT := Lib.hid hw
  clear hw hs hI hi
  go_enter Tryz.func39, Tryz.ntmps39
  go_wp2_with (first | (go_at_call 51; ((with_reducible refine (HSh.out _ (HT.out.below (bel4 _ _ _ _ _))).mono ?_); rintro e w' ⟨rfl, rfl⟩)))
  go_ret
  refine ⟨some ⟨_, 0, none⟩, _, rfl, ?_, bel5 _ _ _ _ _ _⟩
  refine FS.lit _ _ _ HWF.out _ ?_ _ (siz4 _ _ _ _ _)
  simp [cellsF, fldS]
end Go.Proofs.YtdeigbdcipkaaaaGreatDoor
