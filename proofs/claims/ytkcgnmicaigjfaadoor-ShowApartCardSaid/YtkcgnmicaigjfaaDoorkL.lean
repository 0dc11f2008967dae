/- lex.IsWord. -/
import Derived.Test.YtkcgnmicaigjfaaDoorS
import Derived.Lib.ValidLaws
import Derived.Lib.TrimUEq
import Derived.Laws.Runes
import Derived.Laws.RangeString
import Derived.Laws.RangeAny
import Derived.Deep.QuietTactic
import Derived.BigQuiet
import Derived.OwnWalk
import Derived.Laws.Pointers
import Derived.RegionTactic
import Derived.Lib.OthersKept
import Derived.Deep.LoopGhost
namespace Go.Proofs.YtkcgnmicaigjfaaDoor
set_option linter.unusedVariables false
set_option linter.unusedSimpArgs false
open Go.ChangeShapes Go.WideShapes Go.Deep Go.RowKit
def letterI (r : Int) : Bool := (decide (97 ≤ r) && decide (r ≤ 122)) || (decide (65 ≤ r) && decide (r ≤ 90)) || r == 95 || r == 46 || r == 36
def digI (r : Int) : Bool := decide (48 ≤ r) && decide (r ≤ 57)
def whiI (r : Int) : Bool := r == 32 || r == 9 || r == 13
def wordR (r : Nat) : Bool := letterI r || digI r
def whiR (r : Nat) : Bool := whiI r
theorem let_word {r : Nat} (h : letterI r = true) : wordR r = true ∧ whiR r = false ∧ r < 128 ∧ r ≠ 47 := by
  unfold letterI at h
  simp only [Bool.or_eq_true, Bool.and_eq_true, decide_eq_true_eq, beq_iff_eq] at h
  refine ⟨?_, ?_, by omega, by omega⟩
  · unfold wordR letterI
    simp only [Bool.or_eq_true, Bool.and_eq_true, decide_eq_true_eq, beq_iff_eq]
    exact .inl h
  · unfold whiR whiI
    simp only [Bool.or_eq_false_iff, beq_eq_false_iff_ne, ne_eq]
    omega
theorem wordR_lt {r : Nat} (h : wordR r = true) : r < 128 := by
  unfold wordR letterI digI at h
  simp only [Bool.or_eq_true, Bool.and_eq_true, decide_eq_true_eq, beq_iff_eq] at h
  omega
theorem lt_of_block {w : World} {k : Nat} {o : Obj} (h : w.heap[k]? = some o) : k < w.heap.size := (Array.getElem?_eq_some_iff.1 h).1
/-- Nothing but the block p, of what was there, has turned. -/
abbrev KP (p : Nat) (w w' : World) : Prop := w.grownBy w' (some p)
theorem KP.of_below {p : Nat} {w w' : World} (h : Below w.heap.size w w') : KP p w w' := ⟨h.os, h.tape, h.output, h.size, fun k hk _ => h.block k hk⟩
theorem KP.step (p : Nat) (w : World) (o : Nat) (v : Value) : KP p w (w.setCell ⟨p, o, none⟩ v) := ⟨rfl, rfl, rfl, by simp [World.setCell], fun k hk hn => Below.heap_setCell _ _ _ _ (fun e => hn (by rw [e]))⟩
theorem KP.refl (p : Nat) (w : World) : KP p w w := World.grownBy.refl _ _
def wordB (b : UInt8) : Bool := wordR b.toNat
def isWordL (l : List UInt8) : Bool := match l with | [] => false | b :: t => decide (l.length ≤ 31) && letterI (b.toNat : Int) && l.all wordB
theorem wordB_high {b : UInt8} (h : 128 ≤ b.toNat) : wordB b = false := by
  cases hb : wordB b with
  | false => rfl
  | true => have := wordR_lt hb; omega
theorem word_high {r : Int} (h : 128 ≤ r) : letterI r = false ∧ digI r = false := by
  unfold letterI digI
  simp only [Bool.or_eq_false_iff, Bool.and_eq_false_iff, decide_eq_false_iff_not, beq_eq_false_iff_ne, ne_eq]
  omega
theorem get_drop {s : ByteArray} {pos : Nat} (h : pos < s.size) : s.data.toList.drop pos = s[pos] :: s.data.toList.drop (pos + 1) := by
  have h2 : pos < s.data.toList.length := by simpa using h
  rw [drop_cons h2]; rfl
theorem ba_list (l : List UInt8) : (⟨l.toArray⟩ : ByteArray).toList = l := by
  rw [ByteArray.toList_eq]
theorem KP.trans' {p : Nat} {a b c : World} (h : KP p a b) (k : KP p b c) : KP p a c := h.trans k
abbrev i64ok (k : Int) : Prop := -9223372036854775808 ≤ k ∧ k ≤ 9223372036854775807
theorem KP.below {p B : Nat} {w u u' : World} (h : KP p w u) (hb : Below B u u') (hB : w.heap.size ≤ B) : KP p w u' :=
  ⟨hb.os.trans h.os, hb.tape.trans h.tape, hb.output.trans h.output, Nat.le_trans h.size hb.size, fun k hk hn => (hb.block k (by omega)).trans (h.block k hk hn)⟩
theorem KP.to_below {w u u' : World} {p : Nat} (hw : Below w.heap.size w u) (h : KP p u u') (hp : w.heap.size ≤ p) : Below w.heap.size w u' :=
  hw.trans ⟨h.os, h.tape, h.output, h.size, fun k hk => h.block k (by have := hw.size; omega) (by simp; omega)⟩
theorem set3 {w : World} {X : Nat} {a b c x y z : Value} {T : TypeId} (h : w.heap[X]? = some (.cells #[a, b, c] T (0, 0))) :
    (((w.setCell ⟨X, 0, none⟩ x).setCell ⟨X, 1, none⟩ y).setCell ⟨X, 2, none⟩ z).heap[X]? = some (.cells #[x, y, z] T (0, 0)) := by
  unfold World.setCell
  simp [h, Array.getElem?_modify]
theorem ba_ext {a b : ByteArray} (h : a.data.toList = b.data.toList) : a = b := by
  cases a; cases b
  congr 1
  exact Array.ext' h
def RTab (w : World) : Prop := True
theorem RTab.next {w w' : World} (h : RTab w) (hb : Below w.heap.size w w') : RTab w' := trivial
end Go.Proofs.YtkcgnmicaigjfaaDoor
