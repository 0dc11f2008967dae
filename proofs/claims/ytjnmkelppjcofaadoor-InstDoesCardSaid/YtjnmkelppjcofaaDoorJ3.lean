/- inst.Reads. -/
import Derived.Test.YtjnmkelppjcofaaDoorJ2
import Derived.Deep.RegionHeld3
namespace Go.Proofs.YtjnmkelppjcofaaDoor
set_option linter.unusedVariables false
set_option linter.unusedSimpArgs false
open Go.RowKit

def markF (f : Nat → Bool) (n : Nat) (st : Bool) : Nat → Bool := fun j => f j || (decide (j = n) && (n != 31 || st))
theorem bools_set (f : Nat → Bool) (n : Nat) (hn : n < 32) : (boolsL f).toArray.setIfInBounds n (.bool true) = (boolsL fun j => f j || decide (j = n)).toArray := by
  rw [List.setIfInBounds_toArray]
  congr 1
  refine List.ext_getElem? fun k => ?_
  rw [List.getElem?_set]
  by_cases hk : k < 32
  · rw [boolsL_at _ k hk, boolsL_at _ k hk, boolsL_len]
    by_cases e : n = k
    · subst e; simp [hn]
    · have : ¬ k = n := fun h => e h.symm
      simp [e, this]
  · have h0 : ∀ g : Nat → Bool, (boolsL g)[k]? = none := fun g => List.getElem?_eq_none (by rw [boolsL_len]; omega)
    rw [h0, h0]
    have : ¬ n = k := by omega
    simp [this]
theorem markF_eq {f : Nat → Bool} {n : Nat} {st : Bool} (h : (n != 31 || st) = true) : markF f n st = fun j => f j || decide (j = n) := by funext j; simp only [markF, h, Bool.and_true]
theorem markF_id {f : Nat → Bool} {n : Nat} {st : Bool} (h : (n != 31 || st) = false) : markF f n st = f := by funext j; simp only [markF, h, Bool.and_false, Bool.or_false]
/-- What a call of note leaves. -/
def NoteP (B : Nat) (f : Nat → Bool) (w : World) (e : Ending) (w' : World) : Prop :=
  e = .returned (.tuple #[]) ∧ w'.heap[B]? = some (.cells (boolsL f).toArray 47 (0, 0)) ∧ w.grownBy w' (some B)
theorem grown_set' (w : World) (b o : Nat) (x : Value) : w.grownBy (w.setCell ⟨b, o, none⟩ x) (some b) :=
  ⟨rfl, rfl, rfl, by simp [World.setCell], fun k _ hk => Below.heap_setCell _ _ _ _ (fun e => hk (by simp [e]))⟩
theorem heap_setCell' {w : World} {b o : Nat} {x : Value} {cs : Array Value} {T : TypeId} {fr : Nat × Nat} (hb : w.heap[b]? = some (.cells cs T fr)) : (w.setCell ⟨b, o, none⟩ x).heap[b]? = some (.cells (cs.setIfInBounds o x) T fr) := by
  simp [World.setCell, Array.getElem?_modify, hb]
set_option maxHeartbeats 1000000 in
theorem note_any (n B : Nat) (st : Bool) (f : Nat → Bool) (w : World) (hn : n < 32) (hb : w.heap[B]? = some (.cells (boolsL f).toArray 47 (0, 0))) :
    Calls Tryd.prog 36 #[.int .i64 n, .bool st, .pointer (some ⟨B, 0, none⟩)] w (NoteP B (markF f n st) w) := by
  have hc : w.cell? ⟨B, n, none⟩ = some (.bool (f n)) := by
    rw [World.cell?, hb]; simp [boolsL_at f n hn]
  have hfz : w.frozen? ⟨B, n, none⟩ = false := by simp [World.frozen?, hb]
  cases hq : (n != 31 || st)
  · have HM := Lib.hid (markF_id (f := f) hq)
    simp only [Bool.or_eq_false_iff, bne_eq_false_iff_eq] at hq
    obtain ⟨rfl, rfl⟩ := hq
    have HB := Lib.hid hb
    clear hb
    go_enter Tryd.func36, Tryd.ntmps36
    go_wp2
    go_end0
    exact ⟨rfl, by rw [HM.out]; exact HB.out, World.grownBy.refl _ _⟩
  · have HM := Lib.hid (markF_eq (f := f) hq)
    have HS : Hid ((w.setCell ⟨B, n, none⟩ (.bool true)).heap[B]? = some (.cells (boolsL (markF f n st)).toArray 47 (0, 0))) := Lib.hid (by
      rw [heap_setCell' hb, bools_set f n hn, HM.out])
    clear hb
    by_cases e : n = 31
    · subst e
      have : st = true := by simpa using hq
      subst this
      clear hq
      go_enter Tryd.func36, Tryd.ntmps36
      go_wp2
      go_end0
      exact ⟨rfl, HS.out, grown_set' _ _ _ _⟩
    · have q : ((n : Int) != 31) = true := by rw [bne_iff_ne]; omega
      clear hq e
      go_enter Tryd.func36, Tryd.ntmps36
      go_wp2
      go_end0
      exact ⟨rfl, HS.out, grown_set' _ _ _ _⟩

theorem note_zero (B : Nat) (st : Bool) (f : Nat → Bool) (w : World) (hb : w.heap[B]? = some (.cells (boolsL f).toArray 47 (0, 0))) :
    Calls Tryd.prog 36 #[.int .i64 0, .bool st, .pointer (some ⟨B, 0, none⟩)] w (NoteP B (markF f 0 st) w) := note_any 0 B st f w (by omega) hb
/-- What holds between two calls of note: the instruction, and what was noted. -/
def RS (R B : Nat) (i : In) (f : Nat → Bool) (w0 W : World) : Prop :=
  W.heap[R]? = some (.cells (inC i) 24 (0, 0)) ∧ W.heap[B]? = some (.cells (boolsL f).toArray 47 (0, 0)) ∧ Below w0.heap.size w0 W ∧ w0.heap.size ≤ R ∧ R < B
theorem RS.ten {R B : Nat} {i : In} {f : Nat → Bool} {w0 W : World} (h : RS R B i f w0 W) : Ten R i W := by
  have hk : ∀ j, W.cell? ⟨R, j, none⟩ = (inC i)[j]? := fun j => by rw [World.cell?, h.1]; rfl
  exact ⟨hk 0, hk 1, hk 2, hk 3, hk 4, hk 5, hk 6, hk 7, hk 8, hk 9⟩
theorem RS.drew {R B : Nat} {i : In} {f : Nat → Bool} {w0 W : World} (h : RS R B i f w0 W) : RS R B i f w0 W.drew := ⟨h.1, h.2.1, h.2.2.1.drew, h.2.2.2⟩
theorem RS.note {R B : Nat} {i : In} {f f' : Nat → Bool} {w0 W W' : World} (h : RS R B i f w0 W) (hb : W'.heap[B]? = some (.cells (boolsL f').toArray 47 (0, 0))) (hg : W.grownBy W' (some B)) : RS R B i f' w0 W' := by
  refine ⟨(hg.block R (Array.getElem?_eq_some_iff.1 h.1).1 ?_).trans h.1, hb, h.2.2.1.grown hg h.2.2.1.size ?_, h.2.2.2⟩
  · intro e; have := h.2.2.2.2; simp at e; omega
  · intro k e; cases e; have := h.2.2.2; omega
theorem zero_bools : ∀ w, (zeroValue 47).run Tryd.prog w = .ok (.agg (boolsL fun _ => false).toArray) w := by intro w; kernel_rfl

def readF (i : In) : Nat → Bool :=
  let s := shapeI i.op
  let f1 := if hasNb s then markF (fun _ => false) i.n.toNat (stackNb s) else fun _ => false
  let f2 := if hasMb s then markF f1 i.m.toNat false else f1
  let f3 := if s == 6 then markF f2 i.a.toNat false else f2
  if i.op = 3 ∨ i.op = 23 ∨ i.op = 25 ∨ i.op = 32 ∨ i.op = 33 then markF f3 i.d.toNat false else if i.op = 37 then markF f3 0 false else f3
def readsI (i : In) : List Int := if isI i then riseL (readF i) else []
end Go.Proofs.YtjnmkelppjcofaaDoor
