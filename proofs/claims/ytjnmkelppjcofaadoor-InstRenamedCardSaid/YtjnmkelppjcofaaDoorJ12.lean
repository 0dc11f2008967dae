/- The law InstRenamed, walked. -/
import Derived.Test.YtjnmkelppjcofaaDoorJ11
import Derived.Deep.DeepCutAuto
namespace Go.Proofs.YtjnmkelppjcofaaDoor
set_option linter.unusedVariables false
set_option linter.unusedSimpArgs false
open Go.RowKit

set_option maxHeartbeats 400000 in
theorem swap_any (A B : Nat) (a b v : Int) (w : World) (ha : w.cell? ⟨A, 0, none⟩ = some (.int .i64 a)) (hb : w.cell? ⟨B, 0, none⟩ = some (.int .i64 b)) :
    Calls Tryd.prog 24 #[.int .i64 v, .pointer (some ⟨A, 0, none⟩), .pointer (some ⟨B, 0, none⟩)] w (Ret (.int .i64 (swp a b v)) w) := by
  cases c1 : (v == a)
  · cases c2 : (v == b)
    · have H : Hid (swp a b v = v) := Lib.hid (by rw [beq_eq_false_iff_ne] at c1 c2; unfold swp; rw [if_neg c1, if_neg c2])
      go_enter Tryd.func24, Tryd.ntmps24
      go_wp2
      go_ret
      exact ret_int (by rw [H.out])
    · have H : Hid (swp a b v = a) := Lib.hid (by rw [beq_eq_false_iff_ne] at c1; rw [beq_iff_eq] at c2; unfold swp; rw [if_neg c1, if_pos c2])
      go_enter Tryd.func24, Tryd.ntmps24
      go_wp2
      go_ret
      exact ret_int (by rw [H.out])
  · have H : Hid (swp a b v = b) := Lib.hid (by rw [beq_iff_eq] at c1; unfold swp; rw [if_pos c1])
    go_enter Tryd.func24, Tryd.ntmps24
    go_wp2
    go_ret
    exact ret_int (by rw [H.out])

/-- What holds while the places are changed: the instruction, the two numbers; the copy. -/
def KB (X Y Z : Nat) (i : In) (a b : Int) (w0 W : World) : Prop :=
  Ten X i W ∧ W.cell? ⟨Y, 0, none⟩ = some (.int .i64 a) ∧ W.cell? ⟨Z, 0, none⟩ = some (.int .i64 b) ∧ Below w0.heap.size w0 W ∧ X < W.heap.size ∧ Y < W.heap.size ∧ Z < W.heap.size
theorem KB.below {X Y Z : Nat} {i : In} {a b : Int} {w0 W W' : World} (h : KB X Y Z i a b w0 W) (k : Below W.heap.size W W') : KB X Y Z i a b w0 W' := by
  obtain ⟨h1, h2, h3, h4, h5, h6, h7⟩ := h
  exact ⟨h1.below k h5, (k.cell (p := ⟨Y, 0, none⟩) h6).trans h2, (k.cell (p := ⟨Z, 0, none⟩) h7).trans h3, after h4 k, Nat.lt_of_lt_of_le h5 k.size, Nat.lt_of_lt_of_le h6 k.size, Nat.lt_of_lt_of_le h7 k.size⟩
def KS (X Y Z J : Nat) (i j : In) (a b : Int) (w0 W : World) : Prop :=
  KB X Y Z i a b w0 W ∧ W.heap[J]? = some (.cells (inC j) 24 (0, 0)) ∧ X < J ∧ Y < J ∧ Z < J ∧ w0.heap.size ≤ J
theorem KS.set {X Y Z J : Nat} {i j j' : In} {a b : Int} {w0 W : World} (h : KS X Y Z J i j a b w0 W) (k : Nat) (v : Value) (hc : (inC j).setIfInBounds k v = inC j') : KS X Y Z J i j' a b w0 (W.setCell ⟨J, k, none⟩ v) := by
  obtain ⟨⟨h1, h2, h3, h4, h5, h6, h7⟩, h8, h9, h10, h11, h12⟩ := h
  have hk : ∀ p, p < J → ∀ o, (W.setCell ⟨J, k, none⟩ v).cell? ⟨p, o, none⟩ = W.cell? ⟨p, o, none⟩ := fun p hp o => World.cell?_of_block (w := W) (Below.heap_setCell W ⟨J, k, none⟩ v p (by simp; omega))
  have hz : (W.setCell ⟨J, k, none⟩ v).heap.size = W.heap.size := by simp [World.setCell]
  refine ⟨⟨?_, (hk _ h10 _).trans h2, (hk _ h11 _).trans h3, h4.setCell (p := ⟨J, k, none⟩) h12 v, by rw [hz]; exact h5, by rw [hz]; exact h6, by rw [hz]; exact h7⟩, ?_, h9, h10, h11, h12⟩
  · obtain ⟨g0, g1, g2, g3, g4, g5, g6, g7, g8, g9⟩ := h1
    exact ⟨(hk _ h9 _).trans g0, (hk _ h9 _).trans g1, (hk _ h9 _).trans g2, (hk _ h9 _).trans g3, (hk _ h9 _).trans g4, (hk _ h9 _).trans g5, (hk _ h9 _).trans g6, (hk _ h9 _).trans g7, (hk _ h9 _).trans g8, (hk _ h9 _).trans g9⟩
  · rw [heap_setCell' h8, hc]
theorem KS.below {X Y Z J : Nat} {i j : In} {a b : Int} {w0 W W' : World} (h : KS X Y Z J i j a b w0 W) (k : Below W.heap.size W W') : KS X Y Z J i j a b w0 W' :=
  ⟨h.1.below k, (k.block J (Array.getElem?_eq_some_iff.1 h.2.1).1).trans h.2.1, h.2.2⟩
theorem KS.low {X Y Z J : Nat} {i j : In} {a b : Int} {w0 W : World} (h : KS X Y Z J i j a b w0 W) : Below w0.heap.size w0 W := h.1.2.2.2.1
theorem KS.copy {X Y Z J : Nat} {i j : In} {a b : Int} {w0 W : World} (h : KS X Y Z J i j a b w0 W) : Ten J j W := by
  have hk : ∀ k, W.cell? ⟨J, k, none⟩ = (inC j)[k]? := fun k => by rw [World.cell?, h.2.1]; rfl
  exact ⟨hk 0, hk 1, hk 2, hk 3, hk 4, hk 5, hk 6, hk 7, hk 8, hk 9⟩
theorem KS.free {X Y Z J : Nat} {i j : In} {a b : Int} {w0 W : World} (h : KS X Y Z J i j a b w0 W) (k : Nat) : W.frozen? ⟨J, k, none⟩ = false := by
  simp [World.frozen?, h.2.1]
theorem hasDb1 {s : Int} (h1 : 1 ≤ s) (h : s ≤ 10) : hasDb s = true := by unfold hasDb; rw [decide_eq_true h1, decide_eq_true h]; rfl
theorem hasDb2 {s : Int} (h : (s == 16) = true) : hasDb s = true := by unfold hasDb; rw [h, Bool.or_true]
theorem hasDb3 {s : Int} (h : 10 < s) (h2 : (s == 16) = false) : hasDb s = false := by unfold hasDb; rw [h2, decide_eq_false (show ¬ s ≤ 10 by omega)]; simp
theorem hasNb1 {s : Int} (h1 : 2 ≤ s) (h : s ≤ 8) : hasNb s = true := by unfold hasNb; rw [decide_eq_true h1, decide_eq_true h]; rfl
theorem hasNb2 {s : Int} (h : (s == 13) = true) : hasNb s = true := by unfold hasNb; rw [h]; simp
theorem hasNb3 {s : Int} (h : (s == 16) = true) : hasNb s = true := by unfold hasNb; rw [h]; simp
theorem hasNb4 {s : Int} (h1 : s < 2 ∨ 8 < s) (h2 : (s == 13) = false) (h3 : (s == 16) = false) : hasNb s = false := by
  unfold hasNb; rw [h2, h3]
  rcases h1 with h | h
  · rw [decide_eq_false (show ¬ 2 ≤ s by omega)]; simp
  · rw [decide_eq_false (show ¬ s ≤ 8 by omega)]; simp
theorem hasMb1 {s : Int} (h1 : 4 ≤ s) (h : s ≤ 6) : hasMb s = true := by unfold hasMb; rw [decide_eq_true h1, decide_eq_true h]; rfl
theorem hasMb2 {s : Int} (h : (s == 16) = true) : hasMb s = true := by unfold hasMb; rw [h]; simp
theorem hasMb3 {s : Int} (h1 : s < 4 ∨ 6 < s) (h3 : (s == 16) = false) : hasMb s = false := by
  unfold hasMb; rw [h3]
  rcases h1 with h | h
  · rw [decide_eq_false (show ¬ 4 ≤ s by omega)]; simp
  · rw [decide_eq_false (show ¬ s ≤ 6 by omega)]; simp

theorem KB.made (w : World) (i : In) (a b : Int) : KB w.heap.size (w.heap.size + 1) (w.heap.size + 1 + 1) i a b w (((w.alloc (.cells (inC i) 24)).alloc (.cells #[.int .i64 a] 3)).alloc (.cells #[.int .i64 b] 3)) := by
  have e1 := (MapKept.heap_alloc (w.alloc (.cells (inC i) 24)) (.cells #[.int .i64 a] 3)).1
  have e2 := (MapKept.heap_alloc ((w.alloc (.cells (inC i) 24)).alloc (.cells #[.int .i64 a] 3)) (.cells #[.int .i64 b] 3)).1
  rw [World.size_alloc] at e1
  rw [World.size_alloc, World.size_alloc] at e2
  refine ⟨(Ten.made w _ _).below (C := w.heap.size + 1) (((Below.refl _ _).alloc (by simp) _).alloc (by simp) _) (by omega), ?_, ?_, (((Below.refl _ w).alloc (Nat.le_refl _) _).alloc (by simp) _).alloc (by simp; omega) _, by simp; omega, by simp, by simp⟩
  · rw [World.cell?, Below.heap_alloc _ _ _ (by simp), e1]; rfl
  · rw [World.cell?, e2]; rfl
end Go.Proofs.YtjnmkelppjcofaaDoor
