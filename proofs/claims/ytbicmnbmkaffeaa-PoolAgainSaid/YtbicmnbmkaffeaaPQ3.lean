/- pool: what a pool's memory holds; New, find. -/
import Derived.Test.YtbicmnbmkaffeaaPQ2
import Derived.Deep.RegionHeld3
import Derived.Deep.AppendLies
import Derived.Deep.QuietTactic
import Derived.BigQuiet
import Derived.StillTactics
import Derived.OwnWalk
import Derived.Laws.Pointers
namespace Go.Proofs.Ytbicmnbmkaffeaa
set_option linter.unusedVariables false
set_option linter.unusedSimpArgs false
open Go.ChangeShapes Go.WideShapes Go.Deep Go.RowKit

/-- The pool at block p holds these literals; all its memory lies from base on. -/
def PS (w : World) (base p : Nat) (l : List Lt) : Prop :=
  ∃ lv mv, w.heap[p]? = some (.cells #[lv, mv] 65 (0, 0)) ∧ base ≤ p ∧ w.ownsRow base 31 3 lv l.length (l.flatMap litC) ∧
    ((mv = .map none ∧ l = []) ∨ ∃ b, mv = .map (some b) ∧ base ≤ b ∧ PM w b l)
theorem lt_of_block {w : World} {k : Nat} {o : Obj} (h : w.heap[k]? = some o) : k < w.heap.size := (Array.getElem?_eq_some_iff.1 h).1
theorem PM.below {w w' : World} {b : Nat} {l : List Lt} (h : PM w b l) (hb : Below w.heap.size w w') : PM w' b l := by
  obtain ⟨es, c, h1, h2⟩ := h
  exact ⟨es, c, (hb.block b (lt_of_block h1)).trans h1, h2⟩
theorem owns_below {w w' : World} {base : Nat} {e : TypeId} {sz : Nat} {v : Value} {n : Nat} {xs : List Value} (h : w.ownsRow base e sz v n xs) (hb : Below w.heap.size w w') : w'.ownsRow base e sz v n xs := by
  obtain ⟨h1, h2⟩ := h
  refine ⟨h1, ?_⟩
  rcases h2 with h2 | ⟨g, cap, cur, e1, e2, e3, e4⟩
  · exact .inl h2
  · exact .inr ⟨g, cap, cur, e1, e2, (hb.block g (lt_of_block e3)).trans e3, e4⟩
theorem PS.below {w w' : World} {base p : Nat} {l : List Lt} (h : PS w base p l) (hb : Below w.heap.size w w') : PS w' base p l := by
  obtain ⟨lv, mv, h1, h2, h3, h4⟩ := h
  refine ⟨lv, mv, (hb.block p (lt_of_block h1)).trans h1, h2, owns_below h3 hb, ?_⟩
  rcases h4 with h4 | ⟨b, e1, e2, e3⟩
  · exact .inl h4
  · exact .inr ⟨b, e1, e2, e3.below hb⟩
theorem PS.base {w : World} {base p : Nat} {l : List Lt} (h : PS w base p l) : base ≤ w.heap.size := by
  obtain ⟨lv, mv, h1, h2, -⟩ := h
  have := lt_of_block h1; omega

def NewP (w : World) (e : Ending) (w' : World) : Prop := e = .returned (.pointer (some ⟨w.heap.size, 0, none⟩)) ∧ PS w' w.heap.size w.heap.size [] ∧ Below w.heap.size w w'
set_option maxRecDepth 100000 in
set_option maxHeartbeats 1000000 in
theorem New_any (w : World) : Calls Try.prog 12 #[] w (NewP w) := by
  have h : PS (w.alloc (.cells #[.slice none 0 0, .map none] 65)) w.heap.size w.heap.size [] :=
    ⟨.slice none 0 0, .map none, (MapKept.heap_alloc w _).1, Nat.le_refl _, ⟨rfl, .inl ⟨rfl, rfl⟩⟩, .inl ⟨rfl, rfl⟩⟩
  have HP := Lib.hid h
  clear h
  go_enter Try.func12, Try.ntmps12
  go_wp2
  go_ret
  exact ⟨rfl, HP.out, (Below.refl _ _).alloc (Nat.le_refl _) _⟩

/-- The look-up in the pool at p, whatever is laid above. -/
theorem find_look {w : World} {base p : Nat} {l : List Lt} (h : PS w base p l) (hg : ∀ y ∈ l, GoodL y) (hd : l.Nodup) (x : Lt) (hx : GoodL x) :
    ∃ mv r, (∀ w', Below w.heap.size w w' → w'.cell? ⟨p, 1, none⟩ = some mv ∧ (Instr.lookup 61 mv (litV x) true).run Try.prog w' = .ok r w') ∧
      ((x ∉ l ∧ r = .tuple #[.int .i64 0, .bool false]) ∨ ∃ i : Nat, l[i]? = some x ∧ r = .tuple #[.int .i64 i, .bool true]) := by
  obtain ⟨lv, mv, h1, h2, h3, h4⟩ := h
  have hc : ∀ w', Below w.heap.size w w' → w'.cell? ⟨p, 1, none⟩ = some mv := by
    intro w' hb
    rw [hb.cell (p := ⟨p, 1, none⟩) (lt_of_block h1), World.cell?, h1]; rfl
  by_cases hm : x ∈ l
  · obtain ⟨i, hi⟩ := List.mem_iff_getElem?.1 hm
    rcases h4 with ⟨-, rfl⟩ | ⟨b, rfl, e2, e3⟩
    · simp at hm
    · exact ⟨_, _, fun w' hb => ⟨hc w' hb, look_yes (e3.below hb) hg hd x i hi⟩, .inr ⟨i, hi, rfl⟩⟩
  · rcases h4 with ⟨rfl, -⟩ | ⟨b, rfl, e2, e3⟩
    · exact ⟨_, _, fun w' hb => ⟨hc w' hb, look_nil x hx w'⟩, .inl ⟨hm, rfl⟩⟩
    · exact ⟨_, _, fun w' hb => ⟨hc w' hb, look_no (e3.below hb) hg x hx hm⟩, .inl ⟨hm, rfl⟩⟩

set_option maxRecDepth 100000 in
set_option maxHeartbeats 1000000 in
theorem find_run (p : Nat) (x : Lt) (mv : Value) (a : Int) (q : Bool) (w : World) (hp : p < w.heap.size)
    (H : ∀ w', Below w.heap.size w w' → w'.cell? ⟨p, 1, none⟩ = some mv ∧ (Instr.lookup 61 mv (litV x) true).run Try.prog w' = .ok (.tuple #[.int .i64 a, .bool q]) w') :
    Calls Try.prog 33 #[.pointer (some ⟨p, 0, none⟩), litV x] w (RetB (.tuple #[.int .i64 a, .bool q]) w) := by
  have HH := Lib.hid H
  clear H
  obtain ⟨s, d, v⟩ := x
  obtain ⟨W, hW⟩ : ∃ W, W = w.alloc (.cells #[.string s, .int .i64 d, .int .u64 v] 31) := ⟨_, rfl⟩
  obtain ⟨X, hX⟩ : ∃ X, X = w.heap.size := ⟨_, rfl⟩
  have hbl : Below w.heap.size w W := by rw [hW]; exact (Below.refl _ _).alloc (Nat.le_refl _) _
  have hx0 : W.heap[X]? = some (.cells #[.string s, .int .i64 d, .int .u64 v] 31 (0, 0)) := by rw [hW, hX]; exact (MapKept.heap_alloc w _).1
  have HW := Lib.hid hW
  have HX := Lib.hid hX
  have HB := Lib.hid hbl
  have c0 : W.cell? ⟨X, 0, none⟩ = some (.string s) := by rw [World.cell?, hx0]; rfl
  have c1 : W.cell? ⟨X, 1, none⟩ = some (.int .i64 d) := by rw [World.cell?, hx0]; rfl
  have c2 : W.cell? ⟨X, 2, none⟩ = some (.int .u64 v) := by rw [World.cell?, hx0]; rfl
  obtain ⟨m0, l0⟩ := HH.out W hbl
  have hlt : X < W.heap.size := lt_of_block hx0
  clear hW hX hbl hx0
  go_enter Try.func33, Try.ntmps33
  go_wp2_with fail
  rw [← HW.out, ← HX.out]
  go_region_held3 (fun w' => w'.cell? ⟨p, 1, none⟩ = some mv ∧ w'.cell? ⟨X, 0, none⟩ = some (.string s) ∧ w'.cell? ⟨X, 1, none⟩ = some (.int .i64 d) ∧ w'.cell? ⟨X, 2, none⟩ = some (.int .u64 v) ∧ (Instr.lookup 61 mv (litV ⟨s, d, v⟩) true).run Try.prog w' = .ok (.tuple #[.int .i64 a, .bool q]) w')
    (first | (go_split_ands; refine ⟨by go_keep, by go_keep, by go_keep, by go_keep, ?_⟩; first | assumption | exact (HH.out _ HB.out.drew).2))
    ((fail))
  go_wp2
  go_ret2
  exact ⟨rfl, HB.out.drew⟩
theorem PS.lt {w : World} {base p : Nat} {l : List Lt} (h : PS w base p l) : p < w.heap.size := by
  obtain ⟨lv, mv, h1, -⟩ := h
  exact lt_of_block h1
theorem find_no {w : World} {base p : Nat} {l : List Lt} (h : PS w base p l) (hg : ∀ y ∈ l, GoodL y) (hd : l.Nodup) (x : Lt) (hx : GoodL x) (hn : x ∉ l) :
    Calls Try.prog 33 #[.pointer (some ⟨p, 0, none⟩), litV x] w (RetB (.tuple #[.int .i64 0, .bool false]) w) := by
  obtain ⟨mv, r, H, ⟨-, rfl⟩ | ⟨i, hi, -⟩⟩ := find_look h hg hd x hx
  · exact find_run p x mv 0 false w h.lt H
  · exact absurd (List.mem_of_getElem? hi) hn
theorem find_yes {w : World} {base p : Nat} {l : List Lt} (h : PS w base p l) (hg : ∀ y ∈ l, GoodL y) (hd : l.Nodup) (x : Lt) (hx : GoodL x) (i : Nat) (hi : l[i]? = some x) :
    Calls Try.prog 33 #[.pointer (some ⟨p, 0, none⟩), litV x] w (RetB (.tuple #[.int .i64 (i : Nat), .bool true]) w) := by
  obtain ⟨mv, r, H, ⟨hn, -⟩ | ⟨k, hk, rfl⟩⟩ := find_look h hg hd x hx
  · exact absurd (List.mem_of_getElem? hi) hn
  · have : k = i := (List.getElem?_inj (List.getElem?_eq_some_iff.1 hk).1 hd).1 (hk.trans hi.symm)
    subst this
    exact find_run p x mv k true w h.lt H
end Go.Proofs.Ytbicmnbmkaffeaa
