/- lex: the reader's memory; peek, isLetter, isDigit, isWhite, more. -/
import Derived.Test.YtngoipcjipbelaaDoorS
import Derived.Test.YtngoipcjipbelaaDoorLA
import Derived.Deep.QuietTactic
import Derived.BigQuiet
import Derived.OwnWalk
import Derived.Laws.Pointers
namespace Go.Proofs.YtngoipcjipbelaaDoor
set_option linter.unusedVariables false
set_option linter.unusedSimpArgs false
open Go.ChangeShapes Go.WideShapes Go.Deep Go.RowKit

theorem lt_of_block {w : World} {k : Nat} {o : Obj} (h : w.heap[k]? = some o) : k < w.heap.size := (Array.getElem?_eq_some_iff.1 h).1
def runC (r : Nat) : List Value := [.int .i64 (r : Int)]
/-- The reader at block p: its runes, and its place. -/
def RD (w : World) (p : Nat) (rs : List Nat) (at' : Nat) : Prop :=
  ∃ a c, w.heap[p]? = some (.cells #[.slice a rs.length c, .int .i64 (at' : Int)] 75 (0, 0)) ∧ SL runC 1 w p a rs.length rs
theorem RD.lt {w : World} {p at' : Nat} {rs : List Nat} (h : RD w p rs at') : p < w.heap.size := by obtain ⟨a, c, h1, -⟩ := h; exact lt_of_block h1
theorem RD.below {w w' : World} {p at' B : Nat} {rs : List Nat} (h : RD w p rs at') (hb : Below B w w') (hp : p < B) : RD w' p rs at' := by
  obtain ⟨a, c, h1, h2⟩ := h
  exact ⟨a, c, (hb.block p hp).trans h1, h2.below (hb.mono (by omega))⟩
theorem RD.step {w : World} {p at' : Nat} {rs : List Nat} (h : RD w p rs at') (x : Nat) : RD (w.setCell ⟨p, 1, none⟩ (.int .i64 (x : Int))) p rs x := by
  obtain ⟨a, c, h1, h2⟩ := h
  refine ⟨a, c, ?_, h2.below ((Below.refl p w).setCell (p := ⟨p, 1, none⟩) (Nat.le_refl _) _)⟩
  unfold World.setCell
  simp [h1, Array.getElem?_modify]
/-- Nothing but the block p, of what was there, has turned. -/
abbrev KP (p : Nat) (w w' : World) : Prop := w.grownBy w' (some p)
theorem KP.of_below {p : Nat} {w w' : World} (h : Below w.heap.size w w') : KP p w w' := ⟨h.os, h.tape, h.output, h.size, fun k hk _ => h.block k hk⟩
theorem KP.step (p : Nat) (w : World) (o : Nat) (v : Value) : KP p w (w.setCell ⟨p, o, none⟩ v) := ⟨rfl, rfl, rfl, by simp [World.setCell], fun k hk hn => Below.heap_setCell _ _ _ _ (fun e => hn (by rw [e]))⟩
theorem KP.refl (p : Nat) (w : World) : KP p w w := World.grownBy.refl _ _
/-- The rune at the head; -1: there is none. -/
def peekZ (l : List Nat) : Int := match l with | [] => -1 | r :: _ => r
theorem peekZ_end {l : List Nat} {k : Nat} (h : l.length ≤ k) : peekZ (l.drop k) = -1 := by rw [List.drop_eq_nil_of_le h]; rfl
theorem peekZ_at {l : List Nat} {k : Nat} (h : k < l.length) : peekZ (l.drop k) = (l[k] : Nat) := by rw [drop_cons h]; rfl
set_option maxRecDepth 100000 in
set_option maxHeartbeats 1000000 in
theorem peek_any {w : World} {p at' : Nat} {rs : List Nat} (h : RD w p rs at') (on : Nat) (h1 : at' + on ≤ 1000000) (h2 : rs.length ≤ 1000000) :
    Calls Tryd.prog 61 #[.pointer (some ⟨p, 0, none⟩), .int .i64 (on : Int)] w (RetD (.int .i64 (peekZ (rs.drop (at' + on)))) w) := by
  obtain ⟨a, c, hp, hs⟩ := h
  have p0 : w.cell? ⟨p, 0, none⟩ = some (.slice a rs.length c) := by rw [World.cell?, hp]; rfl
  have p1 : w.cell? ⟨p, 1, none⟩ = some (.int .i64 (at' : Int)) := by rw [World.cell?, hp]; rfl
  obtain ⟨y, hy⟩ : ∃ y, y = at' + on := ⟨_, rfl⟩
  have hxy : (at' : Int) + on = (y : Int) := by omega
  have hyw : IntKind.i64.wrap (y : Int) = y := by rw [IntKind.wrap_i64]; omega
  rw [← hy]
  clear hy h1
  obtain ⟨n, hn⟩ : ∃ n, n = rs.length := ⟨_, rfl⟩
  rw [← hn] at p0
  by_cases hlt : y < n
  · have hk : y < rs.length := by omega
    obtain ⟨b, off, rfl, hB, hc⟩ := hs.cells (hs.ne hk)
    have c0 := hc y hk 0 (by omega)
    have HR := Lib.hid (peekZ_at hk)
    obtain ⟨x, hx⟩ : ∃ x : Nat, x = rs[y] := ⟨_, rfl⟩
    rw [← hx] at c0 HR
    simp only [runC, Nat.add_zero, Nat.mul_one, List.getElem?_cons_zero] at c0
    have hlz : ¬ ((n : Int) ≤ y) := by omega
    have hlz2 : (y : Int) < n := by omega
    clear hc hs hx hp hk hlt h2 hn
    go_enter Tryd.func61, Tryd.ntmps61
    go_wp2
    go_quiet (fail)
    go_wp2
    go_quiet (fail)
    go_wp2
    go_ret
    exact ⟨by rw [HR.out]; rfl, _, World.drewN_drewN _ _ _⟩
  · have HR := Lib.hid (peekZ_end (l := rs) (k := y) (by omega))
    have hlz : (n : Int) ≤ y := by omega
    clear hs hp h2 hn hlt
    go_enter Tryd.func61, Tryd.ntmps61
    go_wp2
    go_quiet (fail)
    go_wp2
    go_ret
    exact ⟨by rw [HR.out]; rfl, _, rfl⟩
set_option maxHeartbeats 1000000 in
theorem isLetter_any (x : Int) (w : World) : Calls Tryd.prog 43 #[.int .i64 x] w (Ret (.bool (letterI x)) w) := by
  go_enter Tryd.func43, Tryd.ntmps43
  go_wp2
  all_goals
    go_ret
    refine ret_bool ?_
    unfold letterI
    first | (simp_all; done) | (simp_all; omega) | (rw [Bool.eq_iff_iff]; simp; omega)
theorem isDigit_any (x : Int) (w : World) : Calls Tryd.prog 44 #[.int .i64 x] w (Ret (.bool (digI x)) w) := by
  go_enter Tryd.func44, Tryd.ntmps44
  go_wp2
  all_goals
    go_ret
    refine ret_bool ?_
    unfold digI
    first | (simp_all; done) | (simp_all; omega) | (rw [Bool.eq_iff_iff]; simp; omega)
theorem isWhite_any (x : Int) (w : World) : Calls Tryd.prog 60 #[.int .i64 x] w (Ret (.bool (whiI x)) w) := by
  go_enter Tryd.func60, Tryd.ntmps60
  go_wp2
  all_goals
    go_ret
    refine ret_bool ?_
    unfold whiI
    first | (simp_all; done) | (simp_all; omega) | (rw [Bool.eq_iff_iff]; simp; omega)
end Go.Proofs.YtngoipcjipbelaaDoor
