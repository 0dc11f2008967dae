/- The law PoolSame. -/
import Derived.Test.YtbicmnbmkaffeaaPQD
namespace Go.Proofs.Ytbicmnbmkaffeaa
set_option linter.unusedVariables false
set_option linter.unusedSimpArgs false
open Go.ChangeShapes Go.WideShapes Go.Deep Go.RowKit

/-- A row's cells, read where they lie. -/
theorem owns_cells {w : World} {base : Nat} {e : TypeId} {sz : Nat} {v : Value} {n : Nat} {xs : List Value} (h : w.ownsRow base e sz v n xs) (hn : 0 < n) :
    ∃ g cap, v = .slice (some ⟨g, 0, none⟩) n cap ∧ base ≤ g ∧ g < w.heap.size ∧ ∀ j, j < n * sz → w.cell? ⟨g, j, none⟩ = xs[j]? := by
  rcases h.2 with ⟨-, h0⟩ | ⟨g, cap, cur, rfl, hb, hg, -⟩
  · omega
  · exact ⟨g, cap, rfl, hb, lt_of_block hg, fun j hj => h.cellAt j hj⟩
theorem put_first {w : World} {base p : Nat} (h : PS w base p []) (n : Nd) (hn : GoodN n) :
    Calls Try.prog 13 #[.pointer (some ⟨p, 0, none⟩), ndV n] w (PutP base p (if (ofL n).2 = 0 then [(ofL n).1] else []) (0, (ofL n).2) w) := by
  by_cases h0 : (ofL n).2 = 0
  · rw [if_pos h0, h0]
    have := Put_new h (by simp) (by simp) n hn h0 (by simp) (by simp)
    exact this
  · rw [if_neg h0]
    exact Put_bad h n hn h0
theorem ofL_err (n : Nd) : (ofL n).2 = 0 ∨ (ofL n).2 = 1 := by
  by_cases h : (ofL n).2 = 0
  · exact .inl h
  · rw [ofL_bad h]; exact .inr rfl
/-- What the second of two needs is told. -/
theorem put_second {w : World} {base p : Nat} {x : Lt} (hx : GoodL x) (h : PS w base p [x]) (n : Nd) (hn : GoodN n) (h0 : (ofL n).2 = 0) :
    (x = (ofL n).1 ∧ Calls Try.prog 13 #[.pointer (some ⟨p, 0, none⟩), ndV n] w (PutP base p [x] (0, 0) w)) ∨
    (x ≠ (ofL n).1 ∧ Calls Try.prog 13 #[.pointer (some ⟨p, 0, none⟩), ndV n] w (PutP base p [x, (ofL n).1] (1, 0) w)) := by
  have hg : ∀ y ∈ [x], GoodL y := fun y hy => by rw [List.mem_singleton.1 hy]; exact hx
  by_cases e : x = (ofL n).1
  · exact .inl ⟨e, Put_old h hg (by simp) n hn h0 0 (by rw [← e]; rfl)⟩
  · refine .inr ⟨e, ?_⟩
    have := Put_new h hg (by simp) n hn h0 (fun hm => e (List.mem_singleton.1 hm).symm) (by simp)
    exact this
set_option maxRecDepth 100000 in
set_option maxHeartbeats 8000000 in
theorem same_long (m n : Nd) (w : World) (h : 100 < m.sym.size ∨ 100 < n.sym.size) (h1 : m.sym.size ≤ maxLen) (h2 : n.sym.size ≤ maxLen) : Calls Try.prog 3 #[ndV m, ndV n] w (RetB (.bool true) w) := by
  unfold maxLen at h1 h2
  obtain ⟨k, s, d, mm, v⟩ := m
  obtain ⟨k', s', d', mm', v'⟩ := n
  simp only [] at h h1 h2
  by_cases c : 100 < s.size
  · clear h
    go_enter Try.func3, Try.ntmps3
    go_wp2
    go_ret
    exact retB_bool rfl (((Below.refl _ _).alloc (Nat.le_refl _) _).alloc (by simp) _)
  · have c2 : 100 < s'.size := by omega
    clear h
    go_enter Try.func3, Try.ntmps3
    go_wp2
    go_ret
    exact retB_bool rfl (((Below.refl _ _).alloc (Nat.le_refl _) _).alloc (by simp) _)
end Go.Proofs.Ytbicmnbmkaffeaa
