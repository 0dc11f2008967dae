/- part: append to a slice that is empty, or of the call's own. part: grown. part: placed. part: Put. -/
import Derived.Test.YtdgfadabaejkhaaGreatDoorkXA
import Derived.Test.YtdgfadabaejkhaaGreatDoorkLC
import Derived.Laws.AppendOwnNone
import Derived.Laws.OwnMore
import Derived.Deep.RegionLaw
namespace Go.Proofs.YtdgfadabaejkhaaGreatDoor
set_option linter.unusedVariables false
set_option linter.unusedSimpArgs false
open Go.RowKit
open Go.ChangeShapes Go.WideShapes Go.Deep Go.RowKit

theorem info_rel : (Tryz.prog.info? 103).map (fun i => (i.zero, i.size, i.bytes)) = some (some (.agg #[.int .i64 0, .int .i64 0, .int .i64 0, .int .i64 0]), 4, 32) := by kernel_rfl
theorem rl_ones (l : List Rl) : ∀ u ∈ l.flatMap rlC, u.oneCell' = true := by
  intro u hu
  obtain ⟨y, _, hy⟩ := List.mem_flatMap.1 hu
  exact rl_one y u hy
theorem app0 {w : World} {B : Nat} {v : Value} {n m c : Nat} {l ys : List Rl} {a : Option Addr} (h : Row0 w B v n l) (hs : SL rlC 4 w w.heap.size a m ys) (hz : a = none → m = 0 ∧ c = 0) (h63 : n + m ≤ 1000000) (hB : B ≤ w.heap.size) (ty : TypeId) :
    ∃ v' w', (Builtin.append_ #[72, 72] ty #[v, .slice a m c]).run Tryz.prog w = .ok v' w' ∧ Row0 w' B v' (n + m) (l ++ ys) ∧ Below B w w' := by
  obtain ⟨i0, hi, hi0, hi1, hi2⟩ := info_parts info_rel
  have hfl : (ys.flatMap rlC).length = m * 4 := by rw [flat_len rl_len, hs.len]
  rcases h with hown | ⟨ad, rfl, rfl, rfl⟩
  · cases a with
    | none =>
      obtain ⟨rfl, rfl⟩ := hz rfl
      have hy : ys = [] := by have := hs.len; cases ys with | nil => rfl | cons => simp at this
      subst hy
      exact ⟨v, w, run_append_owned_none w B 72 ty 103 i0 4 Tryz.underlying72 hi v n _ hown, .inl (by simpa using hown), Below.refl _ _⟩
    | some ad =>
      obtain ⟨v', w', hr, ho, hgr, -⟩ := run_append_own (P := Tryz.prog) w B 72 ty 103 i0 _ 4 32 Tryz.underlying72 hi hi0 hi1 hi2 rfl (by decide) v n _ hown ad m c (ys.flatMap rlC) hfl (hs.news rl_len (by decide)) (rl_ones ys) (by unfold maxLen; omega) (by omega) hB
      exact ⟨v', w', hr, .inl (by rw [List.flatMap_append]; exact ho), (Below.refl _ _).grown hgr hB (fun k hk => (hown.lt k hk).1)⟩
  · by_cases hm : m = 0
    · subst hm
      have hy : ys = [] := by have := hs.len; cases ys with | nil => rfl | cons => simp at this
      subst hy
      refine ⟨.slice (some ad) 0 0, w, ?_, .inr ⟨ad, rfl, rfl, rfl⟩, Below.refl _ _⟩
      cases a <;> simp [Builtin.append_, run_underlying Tryz.underlying72, sizeOf, typeInfo, hi, Builtin.lenOf, Builtin.firstCells, storeCells, loadCells, loadCellsFrom]
    · obtain ⟨ad2, rfl⟩ : ∃ ad2, a = some ad2 := by
        cases a with
        | none => exact absurd (hz rfl).1 hm
        | some x => exact ⟨x, rfl⟩
      have hr := run_append_grow (P := Tryz.prog) w 72 ty 103 i0 _ Tryz.underlying72 hi hi0 ad 0 0 [] (by simp) (by simp) ad2 m c (ys.flatMap rlC) (by rw [hi1]; exact hfl) (hs.news rl_len (by decide)) (by omega) (by omega) (by rw [Nat.zero_add, nextslicecap_zero (by omega), hi2]; omega)
      refine ⟨_, _, hr, .inl ?_, (below_drewN (Below.refl _ _) 1).alloc hB _⟩
      have hge := grownCap_ge w (0 + m) 0 103
      have hle := grownCap_le_maxLen w (0 + m) 0 103 (by unfold maxLen; omega)
      refine ⟨by rw [List.nil_append, hfl, Nat.zero_add], .inr ⟨w.heap.size, _, _, rfl, hB, heap_alloc_new w.drew _, hge, hle, ?_, ?_⟩⟩
      · rw [Array.size_append, Array.size_append, size_zeroCells]
        simp only [List.size_toArray, List.length_nil, hfl]
        show 0 + m * 4 + _ * 4 = _
        generalize grownCap w (0 + m) 0 103 = G at *
        omega
      · simp only [Array.toList_append, List.nil_append, List.toList_toArray, List.append_nil]
        rw [Nat.zero_add, List.take_append_of_le_length (by rw [hfl]; exact Nat.le_refl _), List.take_of_length_le (by rw [hfl]; exact Nat.le_refl _)]
theorem step_run {w : World} {ops : Array Oper} {o : Oper} {a : Act} {K : Act → World → Prop} {Q : Exit → Act → World → Prop} {E : Prop} (hgd : o.guard = none) (s x : Operand) (t : TypeId)
    (ho : o.op = .call { callee := .builtin .append, args := #[s, x], argTypes := #[t, t] }) (sv xv : Value) (hs : a.eval s = sv) (hx : a.eval x = xv) {v' : Value} {w' : World}
    (hr : (Builtin.append_ #[t, t] o.type #[sv, xv]).run Tryz.prog w = .ok v' w') (h : K (a.put o.dst v') w') : if Region.wanted o (yielded ops a.tmps) = true then Oper.wp Tryz.prog o a w K Q else E := by
  have hw : Region.wanted o (yielded ops a.tmps) = true := by simp [Region.wanted, hgd]
  rw [if_pos hw]
  unfold Oper.wp execOp
  simp only [ho, resolve, invoke, builtin, Sem.run_bind, Sem.run_pure, Result.andThen_ok, List.map_toArray, List.map_cons, List.map_nil, hs, hx, hr]
  exact h
open Go.ChangeShapes Go.WideShapes Go.Deep Go.RowKit

theorem own_cap {w : World} {B e sz n c : Nat} {a : Option Addr} {xs : List Value} (h : w.ownsRow B e sz (.slice a n c) n xs) : n ≤ c := by
  rcases h.2 with ⟨hv, h0⟩ | ⟨g, cap, cur, hv, _, _, h3, _⟩
  · omega
  · simp only [Value.slice.injEq] at hv; omega
theorem Row0.out {w : World} {B : Nat} {v : Value} {n : Nat} {l : List Rl} (h : Row0 w B v n l) : ∃ a c, v = .slice a n c ∧ SL rlC 4 w w.heap.size a n l ∧ (a = none → n = 0 ∧ c = 0) ∧ n ≤ c := by
  rcases h with hown | ⟨ad, rfl, rfl, rfl⟩
  · obtain ⟨a, c, rfl, h1, h2⟩ := SL.ofOwns rl_len (by decide) hown
    exact ⟨a, c, rfl, h1, h2, own_cap hown⟩
  · exact ⟨some ad, 0, rfl, SL.nil _ _ _, (fun h => by cases h), Nat.le_refl _⟩
theorem three_rb {w : World} {A Z : Array Value} {T U : TypeId} :
    RB (((w.alloc (.cells A T)).alloc (.cells Z U)).alloc (.cells #[.pointer none, .slice none 0 0] 92)) w.heap.size A T ∧ RB (((w.alloc (.cells A T)).alloc (.cells Z U)).alloc (.cells #[.pointer none, .slice none 0 0] 92)) (w.heap.size + 1) Z U ∧
    Wr (w.heap.size + 2) (w.heap.size + 2) [] (((w.alloc (.cells A T)).alloc (.cells Z U)).alloc (.cells #[.pointer none, .slice none 0 0] 92)) ∧ Below w.heap.size w (((w.alloc (.cells A T)).alloc (.cells Z U)).alloc (.cells #[.pointer none, .slice none 0 0] 92)) := by
  obtain ⟨h1, h2, h3⟩ := two_rb (w := w) (A := A) (B := Z) (T := T) (U := U)
  have hz : ((w.alloc (.cells A T)).alloc (.cells Z U)).heap.size = w.heap.size + 2 := by rw [World.size_alloc, World.size_alloc]
  have hf := Lib.fresh_isBuilder 92 5 ((w.alloc (.cells A T)).alloc (.cells Z U))
  rw [hz] at hf
  exact ⟨h1.next ((Below.refl _ _).alloc (Nat.le_refl _) _), h2.next ((Below.refl _ _).alloc (Nat.le_refl _) _), hf, h3.alloc (by rw [hz]; omega) _⟩
theorem Row0.mono {w : World} {B B' : Nat} {v : Value} {n : Nat} {l : List Rl} (h : Row0 w B v n l) (hB : B' ≤ B) : Row0 w B' v n l := by
  rcases h with h | h
  · refine .inl ⟨h.1, ?_⟩
    rcases h.2 with hh | ⟨g, cap, cur, hv, hb, r⟩
    · exact .inl hh
    · exact .inr ⟨g, cap, cur, hv, Nat.le_trans hB hb, r⟩
  · exact .inr h
theorem Row0.set {w : World} {B Y : Nat} {v : Value} {n : Nat} {l : List Rl} (h : Row0 w B v n l) (hY : Y < B) (j : Nat) (x : Value) : Row0 (w.setCell ⟨Y, j, none⟩ x) B v n l := by
  rcases h with hown | h
  · refine .inl (hown.kept (KP.step Y w j x) ?_)
    cases hv : v.ownBlock with
    | none => exact .inl rfl
    | some g => right; have := (hown.lt g hv).1; simp; omega
  · exact .inr h
abbrev gset (u : World) (Y : Nat) (x0 x1 x2 x3 x4 x5 : Value) : World := ((((((u.setCell ⟨Y, 0, none⟩ x0).setCell ⟨Y, 1, none⟩ x1).setCell ⟨Y, 2, none⟩ x2).setCell ⟨Y, 3, none⟩ x3).setCell ⟨Y, 4, none⟩ x4).setCell ⟨Y, 5, none⟩ x5)
theorem gset_heap {u : World} {Y : Nat} {y0 y1 y2 y3 y4 y5 : Value} {T : TypeId} (h : RB u Y #[y0, y1, y2, y3, y4, y5] T) (x0 x1 x2 x3 x4 x5 : Value) : RB (gset u Y x0 x1 x2 x3 x4 x5) Y #[x0, x1, x2, x3, x4, x5] T := by
  have h0 : RB (u.setCell ⟨Y, 0, none⟩ x0) Y #[x0, y1, y2, y3, y4, y5] T := h.set (j := 0) _
  have h1 : RB ((u.setCell ⟨Y, 0, none⟩ x0).setCell ⟨Y, 1, none⟩ x1) Y #[x0, x1, y2, y3, y4, y5] T := h0.set (j := 1) _
  have h2 : RB (((u.setCell ⟨Y, 0, none⟩ x0).setCell ⟨Y, 1, none⟩ x1).setCell ⟨Y, 2, none⟩ x2) Y #[x0, x1, x2, y3, y4, y5] T := h1.set (j := 2) _
  have h3 : RB ((((u.setCell ⟨Y, 0, none⟩ x0).setCell ⟨Y, 1, none⟩ x1).setCell ⟨Y, 2, none⟩ x2).setCell ⟨Y, 3, none⟩ x3) Y #[x0, x1, x2, x3, y4, y5] T := h2.set (j := 3) _
  have h4 : RB (((((u.setCell ⟨Y, 0, none⟩ x0).setCell ⟨Y, 1, none⟩ x1).setCell ⟨Y, 2, none⟩ x2).setCell ⟨Y, 3, none⟩ x3).setCell ⟨Y, 4, none⟩ x4) Y #[x0, x1, x2, x3, x4, y5] T := h3.set (j := 4) _
  have h5 : RB ((((((u.setCell ⟨Y, 0, none⟩ x0).setCell ⟨Y, 1, none⟩ x1).setCell ⟨Y, 2, none⟩ x2).setCell ⟨Y, 3, none⟩ x3).setCell ⟨Y, 4, none⟩ x4).setCell ⟨Y, 5, none⟩ x5) Y #[x0, x1, x2, x3, x4, x5] T := h4.set (j := 5) _
  exact h5
theorem gset_below {w u : World} {Y B : Nat} (h : Below B w u) (hY : B ≤ Y) (x0 x1 x2 x3 x4 x5 : Value) : Below B w (gset u Y x0 x1 x2 x3 x4 x5) :=
  ((((((h).setCell (p := ⟨Y, 0, none⟩) hY _).setCell (p := ⟨Y, 1, none⟩) hY _).setCell (p := ⟨Y, 2, none⟩) hY _).setCell (p := ⟨Y, 3, none⟩) hY _).setCell (p := ⟨Y, 4, none⟩) hY _).setCell (p := ⟨Y, 5, none⟩) hY _
theorem gset_row {w : World} {B Y : Nat} {v : Value} {n : Nat} {l : List Rl} (h : Row0 w B v n l) (hY : Y < B) (x0 x1 x2 x3 x4 x5 : Value) : Row0 (gset w Y x0 x1 x2 x3 x4 x5) B v n l :=
  ((((((h).set hY 0 _).set hY 1 _).set hY 2 _).set hY 3 _).set hY 4 _).set hY 5 _

theorem SecR.full {x : Sc × Int} {s : Sc} {er : Int} {w u : World} {a : Option Addr} {n c : Nat} {v : Value} (hx : x = (s, er)) (hn : n = s.rels.length) (hv : v = scV s a n c) (hr : Row0 u w.heap.size (.slice a n c) n s.rels) (hb : Below w.heap.size w u) : SecR x w (.returned (.tuple #[v, .int .i64 er])) u := by
  subst hx hn hv
  exact ⟨a, c, rfl, hr, hb⟩
end Go.Proofs.YtdgfadabaejkhaaGreatDoor
