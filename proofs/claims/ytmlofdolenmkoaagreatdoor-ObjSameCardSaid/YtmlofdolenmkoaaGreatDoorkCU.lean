/- code.fields. code.fields, where a mask is told or a number is packed. code.Encode. -/
import Derived.Test.YtmlofdolenmkoaaGreatDoorkC7
import Derived.RegionTactic
namespace Go.Proofs.YtmlofdolenmkoaaGreatDoor
set_option linter.unusedVariables false
set_option linter.unusedSimpArgs false
open Go.RowKit

def cellsF (l : List F3) : List Value := l.flatMap fun f => [.int .i64 f.1, .int .i64 f.2.1, .int .u32 f.2.2]
theorem cellsF_get (l : List F3) (k : Nat) (h : k < l.length) : (cellsF l)[k * 3]? = some (.int .i64 l[k].1) ∧ (cellsF l)[k * 3 + 1]? = some (.int .i64 l[k].2.1) ∧ (cellsF l)[k * 3 + 2]? = some (.int .u32 l[k].2.2) := by
  have g := flat_get (enc := fun f : F3 => [Value.int .i64 f.1, .int .i64 f.2.1, .int .u32 f.2.2]) (sz := 3) (fun _ => rfl) l k h
  exact ⟨(g 0 (by decide)).trans rfl, (g 1 (by decide)).trans rfl, (g 2 (by decide)).trans rfl⟩
/-- A row of fields, just laid. -/
theorem FS.lit (w : World) (T : TypeId) (l : List F3) (hwf : ∀ f ∈ l, 0 ≤ f.2.2 ∧ f.2.2 < 4294967296 ∧ -9223372036854775808 ≤ f.1 ∧ f.1 ≤ 9223372036854775807 ∧ -9223372036854775808 ≤ f.2.1 ∧ f.2.1 ≤ 9223372036854775807)
    (cs : Array Value) (hcs : cs.toList = cellsF l) (B : Nat) (hB : w.heap.size = B) : FS (w.alloc (.cells cs T)) (w.alloc (.cells cs T)).heap.size (some ⟨B, 0, none⟩) l.length l := by
  subst hB
  refine ⟨rfl, hwf, fun _ => ⟨w.heap.size, 0, rfl, by simp, fun k hk => ?_⟩⟩
  have e := (MapKept.heap_alloc w (.cells cs T)).1
  have hc : ∀ j, (w.alloc (.cells cs T)).cell? ⟨w.heap.size, j, none⟩ = (cellsF l)[j]? := by
    intro j
    unfold World.cell?
    rw [e]
    simp only
    rw [← hcs]; simp
  obtain ⟨g0, g1, g2⟩ := cellsF_get l k hk
  refine ⟨?_, ?_, ?_⟩
  · rw [show 0 + k * 3 = k * 3 from by omega, hc]; exact g0
  · rw [show 0 + k * 3 + 1 = k * 3 + 1 from by omega, hc]; exact g1
  · rw [show 0 + k * 3 + 2 = k * 3 + 2 from by omega, hc]; exact g2
/-- A row of fields is returned, made anew. -/
def RetF (l : List F3) (w : World) (e : Ending) (w' : World) : Prop :=
  ∃ a c, e = .returned (.slice a l.length c) ∧ FS w' w'.heap.size a l.length l ∧ Below w.heap.size w w'
theorem wfF {l : List F3} (h1 : okF l) (h2 : ∀ f ∈ l, rightB f.1 f.2.1 = true) : ∀ f ∈ l, 0 ≤ f.2.2 ∧ f.2.2 < 4294967296 ∧ -9223372036854775808 ≤ f.1 ∧ f.1 ≤ 9223372036854775807 ∧ -9223372036854775808 ≤ f.2.1 ∧ f.2.1 ≤ 9223372036854775807 := by
  intro f hf
  have a := h1 f hf
  have b := h2 f hf
  simp only [rightB, decide_eq_true_eq] at b
  have hp := pow32 f.2.1 (by omega)
  omega

theorem bel4 (w : World) (a b c d : Obj) : Below w.heap.size w ((((w.alloc a).alloc b).alloc c).alloc d) :=
  ((((Below.refl w.heap.size w).alloc (Nat.le_refl _) _).alloc (by simp) _).alloc (by simp; omega) _).alloc (by simp; omega) _
theorem bel5 (w : World) (a b c d e : Obj) : Below w.heap.size w (((((w.alloc a).alloc b).alloc c).alloc d).alloc e) := (bel4 w a b c d).alloc (by simp; omega) _
theorem siz4 (w : World) (a b c d : Obj) : ((((w.alloc a).alloc b).alloc c).alloc d).heap.size = w.heap.size + 1 + 1 + 1 + 1 := by simp

set_option maxRecDepth 100000 in
set_option maxHeartbeats 4000000 in
theorem fields1 (o d n m a x k h t c : Int) (w : World) (hw : Tab6 w) (hs : shapeI o = 1) (hI : isI ⟨o, d, n, m, a, x, k, h, t, c⟩ = true) (hi : InB ⟨o, d, n, m, a, x, k, h, t, c⟩) :
    Calls Tryz.prog 72 #[inV ⟨o, d, n, m, a, x, k, h, t, c⟩] w (RetF (fldS 1 ⟨o, d, n, m, a, x, k, h, t, c⟩) w) := by
  have hf := facts1 hs hI
  have HWF := Lib.hid (wfF (enc1 hs hI).1 (apartL_right _ _ (apart_t 1 _ (by omega)).1))
  have HSh : Hid (∀ w, Tab6 w → Calls Tryz.prog 81 #[.int .i64 o] w (Ret (.int .i64 1) w)) := Lib.hid fun w h => by have := Shape_any o w h.1; rwa [hs] at this
  have HT := Lib.hid hw
  clear hw hs hI hi
  have tq : t.tdiv 16 = t / 16 := Int.tdiv_eq_ediv_of_nonneg (by omega)
  have TQ := Lib.hid tq
  clear tq
  go_enter Tryz.func72, Tryz.ntmps72
  go_wp2_with (first | (go_at_call 81; ((with_reducible refine (HSh.out _ (HT.out.below (bel4 _ _ _ _ _))).mono ?_); rintro e w' ⟨rfl, rfl⟩)))
  go_ret
  refine ⟨some ⟨_, 0, none⟩, _, rfl, ?_, bel5 _ _ _ _ _ _⟩
  refine FS.lit _ _ _ HWF.out _ ?_ _ (siz4 _ _ _ _ _)
  simp [cellsF, fldS, TQ.out]

set_option maxRecDepth 100000 in
set_option maxHeartbeats 4000000 in
theorem fields2 (o d n m a x k h t c : Int) (w : World) (hw : Tab6 w) (hs : shapeI o = 2) (hI : isI ⟨o, d, n, m, a, x, k, h, t, c⟩ = true) (hi : InB ⟨o, d, n, m, a, x, k, h, t, c⟩) :
    Calls Tryz.prog 72 #[inV ⟨o, d, n, m, a, x, k, h, t, c⟩] w (RetF (fldS 2 ⟨o, d, n, m, a, x, k, h, t, c⟩) w) := by
  have hf := facts2 hs hI
  have HWF := Lib.hid (wfF (enc2 hs hI).1 (apartL_right _ _ (apart_t 2 _ (by omega)).1))
  have HSh : Hid (∀ w, Tab6 w → Calls Tryz.prog 81 #[.int .i64 o] w (Ret (.int .i64 2) w)) := Lib.hid fun w h => by have := Shape_any o w h.1; rwa [hs] at this
  have HT := Lib.hid hw
  clear hw hs hI hi
  have tq : t.tdiv 12 = t / 12 := Int.tdiv_eq_ediv_of_nonneg (by omega)
  have TQ := Lib.hid tq
  clear tq
  go_enter Tryz.func72, Tryz.ntmps72
  go_wp2_with (first | (go_at_call 81; ((with_reducible refine (HSh.out _ (HT.out.below (bel4 _ _ _ _ _))).mono ?_); rintro e w' ⟨rfl, rfl⟩)))
  go_ret
  refine ⟨some ⟨_, 0, none⟩, _, rfl, ?_, bel5 _ _ _ _ _ _⟩
  refine FS.lit _ _ _ HWF.out _ ?_ _ (siz4 _ _ _ _ _)
  simp [cellsF, fldS, TQ.out]

set_option maxRecDepth 100000 in
set_option maxHeartbeats 4000000 in
theorem fields4 (o d n m a x k h t c : Int) (w : World) (hw : Tab6 w) (hs : shapeI o = 4) (hI : isI ⟨o, d, n, m, a, x, k, h, t, c⟩ = true) (hi : InB ⟨o, d, n, m, a, x, k, h, t, c⟩) :
    Calls Tryz.prog 72 #[inV ⟨o, d, n, m, a, x, k, h, t, c⟩] w (RetF (fldS 4 ⟨o, d, n, m, a, x, k, h, t, c⟩) w) := by
  have hf := facts4 hs hI
  have HWF := Lib.hid (wfF (enc4 hs hI).1 (apartL_right _ _ (apart_t 4 _ (by omega)).1))
  have HSh : Hid (∀ w, Tab6 w → Calls Tryz.prog 81 #[.int .i64 o] w (Ret (.int .i64 4) w)) := Lib.hid fun w h => by have := Shape_any o w h.1; rwa [hs] at this
  have HT := Lib.hid hw
  clear hw hs hI hi
  go_enter Tryz.func72, Tryz.ntmps72
  go_wp2_with (first | (go_at_call 81; ((with_reducible refine (HSh.out _ (HT.out.below (bel4 _ _ _ _ _))).mono ?_); rintro e w' ⟨rfl, rfl⟩)))
  go_ret
  refine ⟨some ⟨_, 0, none⟩, _, rfl, ?_, bel5 _ _ _ _ _ _⟩
  refine FS.lit _ _ _ HWF.out _ ?_ _ (siz4 _ _ _ _ _)
  simp [cellsF, fldS]

set_option maxRecDepth 100000 in
set_option maxHeartbeats 4000000 in
theorem fields5 (o d n m a x k h t c : Int) (w : World) (hw : Tab6 w) (hs : shapeI o = 5) (hI : isI ⟨o, d, n, m, a, x, k, h, t, c⟩ = true) (hi : InB ⟨o, d, n, m, a, x, k, h, t, c⟩) :
    Calls Tryz.prog 72 #[inV ⟨o, d, n, m, a, x, k, h, t, c⟩] w (RetF (fldS 5 ⟨o, d, n, m, a, x, k, h, t, c⟩) w) := by
  have hf := facts5 hs hI
  have HWF := Lib.hid (wfF (enc5 hs hI).1 (apartL_right _ _ (apart_t 5 _ (by omega)).1))
  have HSh : Hid (∀ w, Tab6 w → Calls Tryz.prog 81 #[.int .i64 o] w (Ret (.int .i64 5) w)) := Lib.hid fun w h => by have := Shape_any o w h.1; rwa [hs] at this
  have HT := Lib.hid hw
  clear hw hs hI hi
  go_enter Tryz.func72, Tryz.ntmps72
  go_wp2_with (first | (go_at_call 81; ((with_reducible refine (HSh.out _ (HT.out.below (bel4 _ _ _ _ _))).mono ?_); rintro e w' ⟨rfl, rfl⟩)))
  go_ret
  refine ⟨some ⟨_, 0, none⟩, _, rfl, ?_, bel5 _ _ _ _ _ _⟩
  refine FS.lit _ _ _ HWF.out _ ?_ _ (siz4 _ _ _ _ _)
  simp [cellsF, fldS]

set_option maxRecDepth 100000 in
set_option maxHeartbeats 4000000 in
theorem fields6 (o d n m a x k h t c : Int) (w : World) (hw : Tab6 w) (hs : shapeI o = 6) (hI : isI ⟨o, d, n, m, a, x, k, h, t, c⟩ = true) (hi : InB ⟨o, d, n, m, a, x, k, h, t, c⟩) :
    Calls Tryz.prog 72 #[inV ⟨o, d, n, m, a, x, k, h, t, c⟩] w (RetF (fldS 6 ⟨o, d, n, m, a, x, k, h, t, c⟩) w) := by
  have hf := facts6 hs hI
  have HWF := Lib.hid (wfF (enc6 hs hI).1 (apartL_right _ _ (apart_t 6 _ (by omega)).1))
  have HSh : Hid (∀ w, Tab6 w → Calls Tryz.prog 81 #[.int .i64 o] w (Ret (.int .i64 6) w)) := Lib.hid fun w h => by have := Shape_any o w h.1; rwa [hs] at this
  have HT := Lib.hid hw
  clear hw hs hI hi
  go_enter Tryz.func72, Tryz.ntmps72
  go_wp2_with (first | (go_at_call 81; ((with_reducible refine (HSh.out _ (HT.out.below (bel4 _ _ _ _ _))).mono ?_); rintro e w' ⟨rfl, rfl⟩)))
  go_ret
  refine ⟨some ⟨_, 0, none⟩, _, rfl, ?_, bel5 _ _ _ _ _ _⟩
  refine FS.lit _ _ _ HWF.out _ ?_ _ (siz4 _ _ _ _ _)
  simp [cellsF, fldS]

set_option maxRecDepth 100000 in
set_option maxHeartbeats 4000000 in
theorem fields7 (o d n m a x k h t c : Int) (w : World) (hw : Tab6 w) (hs : shapeI o = 7) (hI : isI ⟨o, d, n, m, a, x, k, h, t, c⟩ = true) (hi : InB ⟨o, d, n, m, a, x, k, h, t, c⟩) :
    Calls Tryz.prog 72 #[inV ⟨o, d, n, m, a, x, k, h, t, c⟩] w (RetF (fldS 7 ⟨o, d, n, m, a, x, k, h, t, c⟩) w) := by
  have hf := facts7 hs hI
  have HWF := Lib.hid (wfF (enc7 hs hI).1 (apartL_right _ _ (apart_t 7 _ (by omega)).1))
  have HSh : Hid (∀ w, Tab6 w → Calls Tryz.prog 81 #[.int .i64 o] w (Ret (.int .i64 7) w)) := Lib.hid fun w h => by have := Shape_any o w h.1; rwa [hs] at this
  have HT := Lib.hid hw
  clear hw hs hI hi
  have tq : x.tdiv 8 = x / 8 := Int.tdiv_eq_ediv_of_nonneg (by omega)
  have TQ := Lib.hid tq
  clear tq
  go_enter Tryz.func72, Tryz.ntmps72
  go_wp2_with (first | (go_at_call 81; ((with_reducible refine (HSh.out _ (HT.out.below (bel4 _ _ _ _ _))).mono ?_); rintro e w' ⟨rfl, rfl⟩)))
  go_ret
  refine ⟨some ⟨_, 0, none⟩, _, rfl, ?_, bel5 _ _ _ _ _ _⟩
  refine FS.lit _ _ _ HWF.out _ ?_ _ (siz4 _ _ _ _ _)
  simp [cellsF, fldS, TQ.out]

set_option maxRecDepth 100000 in
set_option maxHeartbeats 4000000 in
theorem fields8 (o d n m a x k h t c : Int) (w : World) (hw : Tab6 w) (hs : shapeI o = 8) (hI : isI ⟨o, d, n, m, a, x, k, h, t, c⟩ = true) (hi : InB ⟨o, d, n, m, a, x, k, h, t, c⟩) :
    Calls Tryz.prog 72 #[inV ⟨o, d, n, m, a, x, k, h, t, c⟩] w (RetF (fldS 8 ⟨o, d, n, m, a, x, k, h, t, c⟩) w) := by
  have hf := facts8 hs hI
  have HWF := Lib.hid (wfF (enc8 hs hI).1 (apartL_right _ _ (apart_t 8 _ (by omega)).1))
  have HSh : Hid (∀ w, Tab6 w → Calls Tryz.prog 81 #[.int .i64 o] w (Ret (.int .i64 8) w)) := Lib.hid fun w h => by have := Shape_any o w h.1; rwa [hs] at this
  have HT := Lib.hid hw
  clear hw hs hI hi
  go_enter Tryz.func72, Tryz.ntmps72
  go_wp2_with (first | (go_at_call 81; ((with_reducible refine (HSh.out _ (HT.out.below (bel4 _ _ _ _ _))).mono ?_); rintro e w' ⟨rfl, rfl⟩)))
  go_ret
  refine ⟨some ⟨_, 0, none⟩, _, rfl, ?_, bel5 _ _ _ _ _ _⟩
  refine FS.lit _ _ _ HWF.out _ ?_ _ (siz4 _ _ _ _ _)
  simp [cellsF, fldS]

set_option maxRecDepth 100000 in
set_option maxHeartbeats 4000000 in
theorem fields13 (o d n m a x k h t c : Int) (w : World) (hw : Tab6 w) (hs : shapeI o = 13) (hI : isI ⟨o, d, n, m, a, x, k, h, t, c⟩ = true) (hi : InB ⟨o, d, n, m, a, x, k, h, t, c⟩) :
    Calls Tryz.prog 72 #[inV ⟨o, d, n, m, a, x, k, h, t, c⟩] w (RetF (fldS 13 ⟨o, d, n, m, a, x, k, h, t, c⟩) w) := by
  have hf := facts13 hs hI
  have HWF := Lib.hid (wfF (enc13 hs hI).1 (apartL_right _ _ (apart_t 13 _ (by omega)).1))
  have HSh : Hid (∀ w, Tab6 w → Calls Tryz.prog 81 #[.int .i64 o] w (Ret (.int .i64 13) w)) := Lib.hid fun w h => by have := Shape_any o w h.1; rwa [hs] at this
  have HT := Lib.hid hw
  clear hw hs hI hi
  go_enter Tryz.func72, Tryz.ntmps72
  go_wp2_with (first | (go_at_call 81; ((with_reducible refine (HSh.out _ (HT.out.below (bel4 _ _ _ _ _))).mono ?_); rintro e w' ⟨rfl, rfl⟩)))
  go_ret
  refine ⟨some ⟨_, 0, none⟩, _, rfl, ?_, bel5 _ _ _ _ _ _⟩
  refine FS.lit _ _ _ HWF.out _ ?_ _ (siz4 _ _ _ _ _)
  simp [cellsF, fldS]

set_option maxRecDepth 100000 in
set_option maxHeartbeats 4000000 in
theorem fields14 (o d n m a x k h t c : Int) (w : World) (hw : Tab6 w) (hs : shapeI o = 14) (hI : isI ⟨o, d, n, m, a, x, k, h, t, c⟩ = true) (hi : InB ⟨o, d, n, m, a, x, k, h, t, c⟩) :
    Calls Tryz.prog 72 #[inV ⟨o, d, n, m, a, x, k, h, t, c⟩] w (RetF (fldS 14 ⟨o, d, n, m, a, x, k, h, t, c⟩) w) := by
  have hf := facts14 hs hI
  have HWF := Lib.hid (wfF (enc14 hs hI).1 (apartL_right _ _ (apart_t 14 _ (by omega)).1))
  have HSh : Hid (∀ w, Tab6 w → Calls Tryz.prog 81 #[.int .i64 o] w (Ret (.int .i64 14) w)) := Lib.hid fun w h => by have := Shape_any o w h.1; rwa [hs] at this
  have HT := Lib.hid hw
  clear hw hs hI hi
  go_enter Tryz.func72, Tryz.ntmps72
  go_wp2_with (first | (go_at_call 81; ((with_reducible refine (HSh.out _ (HT.out.below (bel4 _ _ _ _ _))).mono ?_); rintro e w' ⟨rfl, rfl⟩)))
  go_ret
  refine ⟨some ⟨_, 0, none⟩, _, rfl, ?_, bel5 _ _ _ _ _ _⟩
  refine FS.lit _ _ _ HWF.out _ ?_ _ (siz4 _ _ _ _ _)
  simp [cellsF, fldS]

set_option maxRecDepth 100000 in
set_option maxHeartbeats 4000000 in
theorem fields15 (o d n m a x k h t c : Int) (w : World) (hw : Tab6 w) (hs : shapeI o = 15) (hI : isI ⟨o, d, n, m, a, x, k, h, t, c⟩ = true) (hi : InB ⟨o, d, n, m, a, x, k, h, t, c⟩) :
    Calls Tryz.prog 72 #[inV ⟨o, d, n, m, a, x, k, h, t, c⟩] w (RetF (fldS 15 ⟨o, d, n, m, a, x, k, h, t, c⟩) w) := by
  have hf := facts15 hs hI
  have HWF := Lib.hid (wfF (enc15 hs hI).1 (apartL_right _ _ (apart_t 15 _ (by omega)).1))
  have HSh : Hid (∀ w, Tab6 w → Calls Tryz.prog 81 #[.int .i64 o] w (Ret (.int .i64 15) w)) := Lib.hid fun w h => by have := Shape_any o w h.1; rwa [hs] at this
  have HT := Lib.hid hw
  clear hw hs hI hi
  go_enter Tryz.func72, Tryz.ntmps72
  go_wp2_with (first | (go_at_call 81; ((with_reducible refine (HSh.out _ (HT.out.below (bel4 _ _ _ _ _))).mono ?_); rintro e w' ⟨rfl, rfl⟩)))
  go_ret
  exact ⟨none, 0, rfl, ⟨rfl, HWF.out, fun h => (h rfl).elim⟩, bel4 _ _ _ _ _⟩

set_option maxRecDepth 100000 in
set_option maxHeartbeats 4000000 in
theorem fields16 (o d n m a x k h t c : Int) (w : World) (hw : Tab6 w) (hs : shapeI o = 16) (hI : isI ⟨o, d, n, m, a, x, k, h, t, c⟩ = true) (hi : InB ⟨o, d, n, m, a, x, k, h, t, c⟩) :
    Calls Tryz.prog 72 #[inV ⟨o, d, n, m, a, x, k, h, t, c⟩] w (RetF (fldS 16 ⟨o, d, n, m, a, x, k, h, t, c⟩) w) := by
  have hf := facts16 hs hI
  have HWF := Lib.hid (wfF (enc16 hs hI).1 (apartL_right _ _ (apart_t 16 _ (by omega)).1))
  have HSh : Hid (∀ w, Tab6 w → Calls Tryz.prog 81 #[.int .i64 o] w (Ret (.int .i64 16) w)) := Lib.hid fun w h => by have := Shape_any o w h.1; rwa [hs] at this
  have HT := Lib.hid hw
  clear hw hs hI hi
  go_enter Tryz.func72, Tryz.ntmps72
  go_wp2_with (first | (go_at_call 81; ((with_reducible refine (HSh.out _ (HT.out.below (bel4 _ _ _ _ _))).mono ?_); rintro e w' ⟨rfl, rfl⟩)))
  go_ret
  refine ⟨some ⟨_, 0, none⟩, _, rfl, ?_, bel5 _ _ _ _ _ _⟩
  refine FS.lit _ _ _ HWF.out _ ?_ _ (siz4 _ _ _ _ _)
  simp [cellsF, fldS]

theorem cell_new (w : World) (cs : Array Value) (T : TypeId) (j : Nat) : (w.alloc (.cells cs T)).cell? ⟨w.heap.size, j, none⟩ = cs[j]? := by
  have e := (MapKept.heap_alloc w (.cells cs T)).1
  unfold World.cell?
  rw [e]
  rfl
theorem keep2 {w w' : World} {A C D : Obj} {cs : Array Value} {T : TypeId} (hb : Below ((((w.alloc A).alloc (.cells cs T)).alloc C).alloc D).heap.size ((((w.alloc A).alloc (.cells cs T)).alloc C).alloc D) w') (j : Nat) : w'.cell? ⟨w.heap.size + 1, j, none⟩ = cs[j]? := by
  have h1 := cell_new (w.alloc A) cs T j
  rw [World.size_alloc] at h1
  have h2 : Below ((w.alloc A).alloc (.cells cs T)).heap.size ((w.alloc A).alloc (.cells cs T)) ((((w.alloc A).alloc (.cells cs T)).alloc C).alloc D) := ((Below.refl _ _).alloc (Nat.le_refl _) _).alloc (by simp) _
  rw [hb.cell (p := ⟨w.heap.size + 1, j, none⟩) (by simp only [World.size_alloc]; omega), h2.cell (p := ⟨w.heap.size + 1, j, none⟩) (by simp only [World.size_alloc]; omega)]
  exact h1
theorem keep3 {w w' : World} {A C D : Obj} {cs : Array Value} {T : TypeId} (hb : Below ((((w.alloc A).alloc C).alloc (.cells cs T)).alloc D).heap.size ((((w.alloc A).alloc C).alloc (.cells cs T)).alloc D) w') (j : Nat) : w'.cell? ⟨w.heap.size + 1 + 1, j, none⟩ = cs[j]? := by
  have h1 := cell_new ((w.alloc A).alloc C) cs T j
  rw [World.size_alloc, World.size_alloc] at h1
  have h2 : Below (((w.alloc A).alloc C).alloc (.cells cs T)).heap.size (((w.alloc A).alloc C).alloc (.cells cs T)) ((((w.alloc A).alloc C).alloc (.cells cs T)).alloc D) := (Below.refl _ _).alloc (Nat.le_refl _) _
  rw [hb.cell (p := ⟨w.heap.size + 1 + 1, j, none⟩) (by simp only [World.size_alloc]; omega), h2.cell (p := ⟨w.heap.size + 1 + 1, j, none⟩) (by simp only [World.size_alloc]; omega)]
  exact h1

set_option maxRecDepth 100000 in
set_option maxHeartbeats 4000000 in
theorem fields3 (o d n m a x k h t c : Int) (w : World) (hw : Tab6 w) (hs : shapeI o = 3) (hI : isI ⟨o, d, n, m, a, x, k, h, t, c⟩ = true) (hi : InB ⟨o, d, n, m, a, x, k, h, t, c⟩) :
    Calls Tryz.prog 72 #[inV ⟨o, d, n, m, a, x, k, h, t, c⟩] w (RetF (fldS 3 ⟨o, d, n, m, a, x, k, h, t, c⟩) w) := by
  have hf := facts3 hs hI
  have HWF := Lib.hid (wfF (enc3 hs hI hi.mask).1 (apartL_right _ _ (apart_t 3 _ (by omega)).1))
  have HSh : Hid (∀ w, Tab6 w → Calls Tryz.prog 81 #[.int .i64 o] w (Ret (.int .i64 3) w)) := Lib.hid fun w h => by have := Shape_any o w h.1; rwa [hs] at this
  have HT := Lib.hid hw
  have hk0 := hi.mask
  simp only [] at hk0
  obtain ⟨kn, rfl⟩ := Int.eq_ofNat_of_zero_le hk0.1
  obtain ⟨e1, e2, e3, he, r1, r2, r3, r4, r5, r6, -⟩ := enc_pat (k := kn) hf.2 (by omega)
  have HE := Lib.hid he
  have HEnc : Hid (∀ w, Tab w → Calls Tryz.prog 110 #[.int .u64 kn] w (RetB (.tuple #[.int .i64 e1, .int .i64 e2, .int .i64 e3, .int .i64 0]) w)) := Lib.hid fun w h => by
    have := Encode_any kn w (by omega) h
    rwa [he] at this
  clear hw hs hI hi he hk0
  go_enter Tryz.func72, Tryz.ntmps72
  go_wp2_with (first | (go_at_call 81; ((with_reducible refine (HSh.out _ (HT.out.below (bel4 _ _ _ _ _))).mono ?_); rintro e w' ⟨rfl, rfl⟩)) | (go_at_call 110; ((with_reducible refine (HEnc.out _ (HT.out.below (bel4 _ _ _ _ _)).1.1).mono ?_); rintro e w' ⟨rfl, hb⟩; have d0 := keep2 hb 0; have d1 := keep2 hb 1; have d2 := keep2 hb 2; have n0 := keep3 hb 0; have n1 := keep3 hb 1; have n2 := keep3 hb 2; simp only [List.getElem?_toArray, List.getElem?_cons_zero, List.getElem?_cons_succ] at d0 d1 d2 n0 n1 n2; replace hb := Lib.hid (after (bel4 _ _ _ _ _) hb))))
  go_ret
  refine ⟨some ⟨_, 0, none⟩, _, rfl, ?_, hb.out.alloc hb.out.size _⟩
  refine FS.lit _ _ _ HWF.out _ ?_ _ rfl
  simp [cellsF, fldS, HE.out]

set_option maxRecDepth 100000 in
set_option maxHeartbeats 4000000 in
theorem fields9 (o d n m a x k h t c : Int) (w : World) (hw : Tab6 w) (hs : shapeI o = 9) (hI : isI ⟨o, d, n, m, a, x, k, h, t, c⟩ = true) (hi : InB ⟨o, d, n, m, a, x, k, h, t, c⟩) :
    Calls Tryz.prog 72 #[inV ⟨o, d, n, m, a, x, k, h, t, c⟩] w (RetF (fldS 9 ⟨o, d, n, m, a, x, k, h, t, c⟩) w) := by
  have hf := facts9 hs hI
  have HWF := Lib.hid (wfF (enc9 hs hI).1 (apartL_right _ _ (apart_t 9 _ (by omega)).1))
  have HSh : Hid (∀ w, Tab6 w → Calls Tryz.prog 81 #[.int .i64 o] w (Ret (.int .i64 9) w)) := Lib.hid fun w h => by have := Shape_any o w h.1; rwa [hs] at this
  have HT := Lib.hid hw
  have hx := hi.imm
  simp only [i64B] at hx
  have hxb : -9223372036854775808 ≤ x.tdiv 4 ∧ x.tdiv 4 ≤ 9223372036854775807 := by
    obtain ⟨y, hy⟩ : ∃ y, x = 4 * y := Int.dvd_of_tmod_eq_zero (by simp only [hf])
    have := div_mul y 4 (by decide)
    rw [← hy] at this
    omega
  have HP : Hid (∀ w, Calls Tryz.prog 111 #[.int .i64 (x.tdiv 4), .int .i64 19] w (Ret (.int .u32 (pck (x.tdiv 4) 19).1) w)) := Lib.hid fun w => cpack_any _ _ w (by omega) (by omega)
  have hpb : 0 ≤ (pck (x.tdiv 4) 19).1 ∧ (pck (x.tdiv 4) 19).1 < 4294967296 := by
    have := HWF.out
    simp only [fldS, List.mem_cons, List.mem_nil_iff, or_false, forall_eq_or_imp, forall_eq] at this
    exact ⟨this.2.1, this.2.2.1⟩
  have HF : Hid (fldS 9 ⟨o, d, n, m, a, x, k, h, t, c⟩ = [(0, 5, d), (5, 19, (pck (x.tdiv 4) 19).1)]) := Lib.hid rfl
  generalize (pck (x.tdiv 4) 19).1 = p at *
  have hwr : IntKind.i64.wrap (x.tdiv 4) = x.tdiv 4 := by rw [IntKind.wrap_i64]; omega
  have HP2 : Hid (∀ w, Calls Tryz.prog 111 #[.int .i64 (IntKind.i64.wrap (x.tdiv 4)), .int .i64 19] w (Ret (.int .u32 p) w)) := Lib.hid fun w => by rw [hwr]; exact HP.out w
  clear hwr
  clear hw hs hI hi hx
  go_enter Tryz.func72, Tryz.ntmps72
  go_wp2_with (first | (go_at_call 81; ((with_reducible refine (HSh.out _ (HT.out.below (bel4 _ _ _ _ _))).mono ?_); rintro e w' ⟨rfl, rfl⟩)) | (go_at_call 111; ((with_reducible refine (HP.out _).mono ?_); rintro e w' ⟨rfl, rfl⟩)))
  first
  | (go_region_with (first | (go_at_call 111; ((with_reducible refine (HP2.out _).mono ?_); rintro e w' ⟨rfl, rfl⟩))))
  | fail
  all_goals
    go_wp2
    go_ret
    refine ⟨some ⟨_, 0, none⟩, _, rfl, ?_, ?_⟩
    rotate_left
    first
    | exact bel5 _ _ _ _ _ _
    | exact (bel5 _ _ _ _ _ _).drew
    first
    | refine FS.next (FS.lit _ _ _ HWF.out _ ?_ _ (siz4 _ _ _ _ _)) (Below.refl _ _).drew
    | refine FS.lit _ _ _ HWF.out _ ?_ _ (siz4 _ _ _ _ _)
    rw [HF.out]
    simp [cellsF]
    try (rw [IntKind.wrap_u32]; omega)

set_option maxRecDepth 100000 in
set_option maxHeartbeats 4000000 in
theorem fields10 (o d n m a x k h t c : Int) (w : World) (hw : Tab6 w) (hs : shapeI o = 10) (hI : isI ⟨o, d, n, m, a, x, k, h, t, c⟩ = true) (hi : InB ⟨o, d, n, m, a, x, k, h, t, c⟩) :
    Calls Tryz.prog 72 #[inV ⟨o, d, n, m, a, x, k, h, t, c⟩] w (RetF (fldS 10 ⟨o, d, n, m, a, x, k, h, t, c⟩) w) := by
  have hf := facts10 hs hI
  have HWF := Lib.hid (wfF (enc10 hs hI).1 (apartL_right _ _ (apart_t 10 _ (by omega)).1))
  have HSh : Hid (∀ w, Tab6 w → Calls Tryz.prog 81 #[.int .i64 o] w (Ret (.int .i64 10) w)) := Lib.hid fun w h => by have := Shape_any o w h.1; rwa [hs] at this
  have HT := Lib.hid hw
  have hx := hi.imm
  simp only [i64B] at hx
  skip
  have HP : Hid (∀ w, Calls Tryz.prog 111 #[.int .i64 x, .int .i64 21] w (Ret (.int .u32 (pck x 21).1) w)) := Lib.hid fun w => cpack_any _ _ w (by omega) (by omega)
  have hpb : 0 ≤ (pck x 21).1 ∧ (pck x 21).1 < 4294967296 := by
    have h3 := pck_lit (v := x) (n := 21) (by decide) (by decide) (by simp only [Nat.reduceSub, Int.reducePow]; omega) (by simp only [Nat.reduceSub, Int.reducePow]; omega)
    simp only [Int.reducePow, Int.cast_ofNat_Int] at h3
    omega
  have ha := and_ones32 (pck x 21).1 2 hpb.1 hpb.2 (by decide) (by decide)
  simp only [Int.reduceToNat, Int.reducePow, Int.reduceSub] at ha
  have HF : Hid (fldS 10 ⟨o, d, n, m, a, x, k, h, t, c⟩ = [(0, 5, d), (5, 19, ((pck x 21).1 / 4)), (29, 2, ((pck x 21).1 % 4))]) := Lib.hid rfl
  generalize (pck x 21).1 = p at *
  clear hw hs hI hi hx
  go_enter Tryz.func72, Tryz.ntmps72
  go_wp2_with (first | (go_at_call 81; ((with_reducible refine (HSh.out _ (HT.out.below (bel4 _ _ _ _ _))).mono ?_); rintro e w' ⟨rfl, rfl⟩)) | (go_at_call 111; ((with_reducible refine (HP.out _).mono ?_); rintro e w' ⟨rfl, rfl⟩)))
  go_ret
  refine ⟨some ⟨_, 0, none⟩, _, rfl, ?_, ?_⟩
  rotate_left
  first
  | exact bel5 _ _ _ _ _ _
  | exact (bel5 _ _ _ _ _ _).drew
  first
  | refine FS.next (FS.lit _ _ _ HWF.out _ ?_ _ (siz4 _ _ _ _ _)) (Below.refl _ _).drew
  | refine FS.lit _ _ _ HWF.out _ ?_ _ (siz4 _ _ _ _ _)
  rw [HF.out]
  simp [cellsF]
  try (rw [IntKind.wrap_u32]; omega)

set_option maxRecDepth 100000 in
set_option maxHeartbeats 4000000 in
theorem fields11 (o d n m a x k h t c : Int) (w : World) (hw : Tab6 w) (hs : shapeI o = 11) (hI : isI ⟨o, d, n, m, a, x, k, h, t, c⟩ = true) (hi : InB ⟨o, d, n, m, a, x, k, h, t, c⟩) :
    Calls Tryz.prog 72 #[inV ⟨o, d, n, m, a, x, k, h, t, c⟩] w (RetF (fldS 11 ⟨o, d, n, m, a, x, k, h, t, c⟩) w) := by
  have hf := facts11 hs hI
  have HWF := Lib.hid (wfF (enc11 hs hI).1 (apartL_right _ _ (apart_t 11 _ (by omega)).1))
  have HSh : Hid (∀ w, Tab6 w → Calls Tryz.prog 81 #[.int .i64 o] w (Ret (.int .i64 11) w)) := Lib.hid fun w h => by have := Shape_any o w h.1; rwa [hs] at this
  have HT := Lib.hid hw
  have hx := hi.imm
  simp only [i64B] at hx
  have hxb : -9223372036854775808 ≤ x.tdiv 4 ∧ x.tdiv 4 ≤ 9223372036854775807 := by
    obtain ⟨y, hy⟩ : ∃ y, x = 4 * y := Int.dvd_of_tmod_eq_zero (by simp only [hf])
    have := div_mul y 4 (by decide)
    rw [← hy] at this
    omega
  have HP : Hid (∀ w, Calls Tryz.prog 111 #[.int .i64 (x.tdiv 4), .int .i64 26] w (Ret (.int .u32 (pck (x.tdiv 4) 26).1) w)) := Lib.hid fun w => cpack_any _ _ w (by omega) (by omega)
  have hpb : 0 ≤ (pck (x.tdiv 4) 26).1 ∧ (pck (x.tdiv 4) 26).1 < 4294967296 := by
    have := HWF.out
    simp only [fldS, List.mem_cons, List.mem_nil_iff, or_false, forall_eq_or_imp, forall_eq] at this
    exact ⟨this.1, this.2.1⟩
  have HF : Hid (fldS 11 ⟨o, d, n, m, a, x, k, h, t, c⟩ = [(0, 26, (pck (x.tdiv 4) 26).1)]) := Lib.hid rfl
  generalize (pck (x.tdiv 4) 26).1 = p at *
  clear hw hs hI hi hx
  go_enter Tryz.func72, Tryz.ntmps72
  go_wp2_with (first | (go_at_call 81; ((with_reducible refine (HSh.out _ (HT.out.below (bel4 _ _ _ _ _))).mono ?_); rintro e w' ⟨rfl, rfl⟩)) | (go_at_call 111; ((with_reducible refine (HP.out _).mono ?_); rintro e w' ⟨rfl, rfl⟩)))
  go_ret
  refine ⟨some ⟨_, 0, none⟩, _, rfl, ?_, ?_⟩
  rotate_left
  first
  | exact bel5 _ _ _ _ _ _
  | exact (bel5 _ _ _ _ _ _).drew
  first
  | refine FS.next (FS.lit _ _ _ HWF.out _ ?_ _ (siz4 _ _ _ _ _)) (Below.refl _ _).drew
  | refine FS.lit _ _ _ HWF.out _ ?_ _ (siz4 _ _ _ _ _)
  rw [HF.out]
  simp [cellsF]
  try (rw [IntKind.wrap_u32]; omega)

set_option maxRecDepth 100000 in
set_option maxHeartbeats 4000000 in
theorem fields12 (o d n m a x k h t c : Int) (w : World) (hw : Tab6 w) (hs : shapeI o = 12) (hI : isI ⟨o, d, n, m, a, x, k, h, t, c⟩ = true) (hi : InB ⟨o, d, n, m, a, x, k, h, t, c⟩) :
    Calls Tryz.prog 72 #[inV ⟨o, d, n, m, a, x, k, h, t, c⟩] w (RetF (fldS 12 ⟨o, d, n, m, a, x, k, h, t, c⟩) w) := by
  have hf := facts12 hs hI
  have HWF := Lib.hid (wfF (enc12 hs hI).1 (apartL_right _ _ (apart_t 12 _ (by omega)).1))
  have HSh : Hid (∀ w, Tab6 w → Calls Tryz.prog 81 #[.int .i64 o] w (Ret (.int .i64 12) w)) := Lib.hid fun w h => by have := Shape_any o w h.1; rwa [hs] at this
  have HT := Lib.hid hw
  have hx := hi.imm
  simp only [i64B] at hx
  have hxb : -9223372036854775808 ≤ x.tdiv 4 ∧ x.tdiv 4 ≤ 9223372036854775807 := by
    obtain ⟨y, hy⟩ : ∃ y, x = 4 * y := Int.dvd_of_tmod_eq_zero (by simp only [hf])
    have := div_mul y 4 (by decide)
    rw [← hy] at this
    omega
  have HP : Hid (∀ w, Calls Tryz.prog 111 #[.int .i64 (x.tdiv 4), .int .i64 19] w (Ret (.int .u32 (pck (x.tdiv 4) 19).1) w)) := Lib.hid fun w => cpack_any _ _ w (by omega) (by omega)
  have hpb : 0 ≤ (pck (x.tdiv 4) 19).1 ∧ (pck (x.tdiv 4) 19).1 < 4294967296 := by
    have := HWF.out
    simp only [fldS, List.mem_cons, List.mem_nil_iff, or_false, forall_eq_or_imp, forall_eq] at this
    exact ⟨this.2.1, this.2.2.1⟩
  have HF : Hid (fldS 12 ⟨o, d, n, m, a, x, k, h, t, c⟩ = [(0, 4, c), (5, 19, (pck (x.tdiv 4) 19).1)]) := Lib.hid rfl
  generalize (pck (x.tdiv 4) 19).1 = p at *
  have hwr : IntKind.i64.wrap (x.tdiv 4) = x.tdiv 4 := by rw [IntKind.wrap_i64]; omega
  have HP2 : Hid (∀ w, Calls Tryz.prog 111 #[.int .i64 (IntKind.i64.wrap (x.tdiv 4)), .int .i64 19] w (Ret (.int .u32 p) w)) := Lib.hid fun w => by rw [hwr]; exact HP.out w
  clear hwr
  clear hw hs hI hi hx
  go_enter Tryz.func72, Tryz.ntmps72
  go_wp2_with (first | (go_at_call 81; ((with_reducible refine (HSh.out _ (HT.out.below (bel4 _ _ _ _ _))).mono ?_); rintro e w' ⟨rfl, rfl⟩)) | (go_at_call 111; ((with_reducible refine (HP.out _).mono ?_); rintro e w' ⟨rfl, rfl⟩)))
  first
  | (go_region_with (first | (go_at_call 111; ((with_reducible refine (HP2.out _).mono ?_); rintro e w' ⟨rfl, rfl⟩))))
  | fail
  all_goals
    go_wp2
    go_ret
    refine ⟨some ⟨_, 0, none⟩, _, rfl, ?_, ?_⟩
    rotate_left
    first
    | exact bel5 _ _ _ _ _ _
    | exact (bel5 _ _ _ _ _ _).drew
    first
    | refine FS.next (FS.lit _ _ _ HWF.out _ ?_ _ (siz4 _ _ _ _ _)) (Below.refl _ _).drew
    | refine FS.lit _ _ _ HWF.out _ ?_ _ (siz4 _ _ _ _ _)
    rw [HF.out]
    simp [cellsF]
    try (rw [IntKind.wrap_u32]; omega)

theorem fields_any (i : In) (w : World) (hw : Tab6 w) (hI : isI i = true) (hi : InB i) : Calls Tryz.prog 72 #[inV i] w (RetF (fldS (shapeI i.op).toNat i) w) := by
  have hb := shapeI_b i.op
  have h0 := isI_shape hI
  obtain ⟨s, hs⟩ := Int.eq_ofNat_of_zero_le hb.1
  obtain ⟨o, d, n, m, a, x, k, h, t, c⟩ := i
  simp only [] at hs h0 hb ⊢
  rw [hs, Int.toNat_natCast]
  have hc : s = 1 ∨ s = 2 ∨ s = 3 ∨ s = 4 ∨ s = 5 ∨ s = 6 ∨ s = 7 ∨ s = 8 ∨ s = 9 ∨ s = 10 ∨ s = 11 ∨ s = 12 ∨ s = 13 ∨ s = 14 ∨ s = 15 ∨ s = 16 := by omega
  rcases hc with rfl | rfl | rfl | rfl | rfl | rfl | rfl | rfl | rfl | rfl | rfl | rfl | rfl | rfl | rfl | rfl
  · exact fields1 o d n m a x k h t c w hw hs hI hi
  · exact fields2 o d n m a x k h t c w hw hs hI hi
  · exact fields3 o d n m a x k h t c w hw hs hI hi
  · exact fields4 o d n m a x k h t c w hw hs hI hi
  · exact fields5 o d n m a x k h t c w hw hs hI hi
  · exact fields6 o d n m a x k h t c w hw hs hI hi
  · exact fields7 o d n m a x k h t c w hw hs hI hi
  · exact fields8 o d n m a x k h t c w hw hs hI hi
  · exact fields9 o d n m a x k h t c w hw hs hI hi
  · exact fields10 o d n m a x k h t c w hw hs hI hi
  · exact fields11 o d n m a x k h t c w hw hs hI hi
  · exact fields12 o d n m a x k h t c w hw hs hI hi
  · exact fields13 o d n m a x k h t c w hw hs hI hi
  · exact fields14 o d n m a x k h t c w hw hs hI hi
  · exact fields15 o d n m a x k h t c w hw hs hI hi
  · exact fields16 o d n m a x k h t c w hw hs hI hi
theorem fldS_len (s : Nat) (i : In) : (fldS s i).length ≤ 5 := by unfold fldS; split <;> simp
/-- What Encode tells. -/
def encP (i : In) : Int × Int := if isI i = true then ((encW i : Nat), 0) else (0, 1)

set_option maxRecDepth 100000 in
set_option maxHeartbeats 1000000 in
theorem CEncode_any (i : In) (w : World) (hw : Tab6 w) (hi : InB i) : Calls Tryz.prog 39 #[inV i] w (RetB (two .u32 .i64 (encP i)) w) := by
  have HT := Lib.hid hw
  have HIs : Hid (∀ w, Tab6 w → Calls Tryz.prog 46 #[inV i] w (RetB (.bool (isI i)) w)) := Lib.hid fun w h => InstIs_any i w h.1 hi
  have hten := Ten.made w i 44
  obtain ⟨X, hX⟩ : ∃ X, X = w.heap.size := ⟨_, rfl⟩
  obtain ⟨W0, hW0⟩ : ∃ W0, W0 = w.alloc (.cells (inC i) 44) := ⟨_, rfl⟩
  have hXl : X < W0.heap.size := by rw [hX, hW0]; simp
  rw [← hW0, ← hX] at hten
  have HW : Hid (Below w.heap.size w W0) := Lib.hid (by rw [hW0]; exact (Below.refl _ w).alloc (Nat.le_refl _) _)
  have HA := Lib.hid hten
  have HEQ := Lib.hid hW0
  have HXQ := Lib.hid hX
  have HB := Lib.hid (Below.refl W0.heap.size W0)
  have HTT : Hid (∀ wx, Below W0.heap.size W0 wx → Tab6 wx) := Lib.hid fun wx hb => HT.out.below (HW.out.trans (hb.mono HW.out.size))
  clear hX hW0 hten hw
  cases hI : isI i
  · have HE : Hid (encP i = (0, 1)) := Lib.hid (by unfold encP; rw [hI]; rfl)
    rw [hI] at HIs
    clear hI hi
    generalize encP i = ep at *
    obtain ⟨o, d, n, m, a, x, k, h, t, c⟩ := i
    go_enter Tryz.func39, Tryz.ntmps39
    go_wp2_with fail
    rw [← HEQ.out]
    refine (HIs.out _ (HTT.out _ HB.out)).mono ?_
    rintro e w1 ⟨rfl, hb⟩
    replace HB := Lib.hid (after HB.out hb)
    clear hb
    go_wp2
    go_ret2
    exact ⟨by rw [HE.out]; rfl, HW.out.trans (HB.out.mono HW.out.size)⟩
  · obtain ⟨c0, hws, hor, hc0, hlt, -, -⟩ := encW_spec i hI hi.mask
    have HE : Hid (encP i = (((encW i : Nat) : Int), 0)) := Lib.hid (by unfold encP; rw [hI]; rfl)
    have HF : Hid (∀ w, Tab6 w → Calls Tryz.prog 72 #[inV i] w (RetF (fldS (shapeI i.op).toNat i) w)) := Lib.hid fun w h => fields_any i w h hI hi
    have hl5 := fldS_len (shapeI i.op).toNat i
    have ho := code_op hI
    obtain ⟨kk, hkk⟩ := Int.eq_ofNat_of_zero_le (show 0 ≤ i.op by omega)
    have hk39 : kk ≤ 39 := by omega
    have HBA : Hid (∀ wx, Below W0.heap.size W0 wx → wx.cell? ⟨1, kk, none⟩ = some (.int .u32 ((baN i.op : Nat) : Int))) := Lib.hid fun wx hb => by
      have := (HTT.out wx hb).2.1.1 kk (by omega)
      rw [this, hkk]; rfl
    have hor2 := u32_or_nat (baN i.op) c0 (by have := (base_in ⟨kk, by omega⟩).2; simp only [← hkk] at this; exact this) hc0
    rw [hor] at hor2
    rw [hI] at HIs
    clear hI hi hor
    generalize encP i = ep at *
    generalize encW i = ew at *
    generalize baN i.op = ba at *
    generalize fldS (shapeI i.op).toNat i = l at *
    have HWd : Hid (∀ w a c, FS w w.heap.size a l.length l → Calls Tryz.prog 71 #[.slice a l.length c] w (RetB (.tuple #[.int .u32 c0, .int .i64 0]) w)) := Lib.hid fun w a c h => by
      have := word_any a l.length c l w (by omega) h
      rwa [hws] at this
    clear hws hl5
    generalize hn0 : l.length = n0 at *
    obtain ⟨o, d, n, m, a, x, k, h, t, c⟩ := i
    simp only [] at hkk ho
    subst hkk
    go_enter Tryz.func39, Tryz.ntmps39
    go_wp2_with fail
    rw [← HEQ.out, ← HXQ.out]
    refine (HIs.out _ (HTT.out _ HB.out)).mono ?_
    rintro e w1 ⟨rfl, hb⟩
    replace HB := Lib.hid (after HB.out hb)
    clear hb
    obtain ⟨a0, a1, a2, a3, a4, a5, a6, a7, a8, a9⟩ := HA.out.below HB.out hXl
    go_wp2_with (first
      | (go_at_call 72; ((with_reducible refine (HF.out _ (HTT.out _ HB.out)).mono ?_); rintro e w2 ⟨fa, fc, rfl, hfs, hb⟩; rw [hn0] at hfs ⊢; have HFS := Lib.hid hfs; replace HB := Lib.hid (after HB.out hb); clear hb hfs))
      | (go_at_call 71; ((with_reducible refine (HWd.out _ _ _ HFS.out).mono ?_); rintro e w3 ⟨rfl, hb⟩; replace HB := Lib.hid (after HB.out hb); clear hb; have hcell := HBA.out _ HB.out; clear a0 a1 a2 a3 a4 a5 a6 a7 a8 a9; obtain ⟨a0, a1, a2, a3, a4, a5, a6, a7, a8, a9⟩ := HA.out.below HB.out hXl)))
    go_ret2
    exact ⟨by rw [HE.out]; rfl, HW.out.trans (HB.out.mono HW.out.size)⟩
end Go.Proofs.YtmlofdolenmkoaaGreatDoor
