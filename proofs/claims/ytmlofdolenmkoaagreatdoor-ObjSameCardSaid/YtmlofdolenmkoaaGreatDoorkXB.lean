/- part: append to a slice that is empty, or of the call's own. part: grown. part: placed. part: Put. -/
import Derived.Test.YtmlofdolenmkoaaGreatDoorkXA
import Derived.Test.YtmlofdolenmkoaaGreatDoorkLC
import Derived.Laws.AppendOwnNone
import Derived.Laws.OwnMore
import Derived.Deep.RegionLaw
namespace Go.Proofs.YtmlofdolenmkoaaGreatDoor
set_option linter.unusedVariables false
set_option linter.unusedSimpArgs false
open Go.RowKit
open Go.ChangeShapes Go.WideShapes Go.Deep Go.RowKit

theorem info_rel : (Tryz.prog.info? 48).map (fun i => (i.zero, i.size, i.bytes)) = some (some (.agg #[.int .i64 0, .int .i64 0, .int .i64 0, .int .i64 0]), 4, 32) := by kernel_rfl
theorem rl_ones (l : List Rl) : ∀ u ∈ l.flatMap rlC, u.oneCell' = true := by
  intro u hu
  obtain ⟨y, _, hy⟩ := List.mem_flatMap.1 hu
  exact rl_one y u hy
theorem app0 {w : World} {B : Nat} {v : Value} {n m c : Nat} {l ys : List Rl} {a : Option Addr} (h : Row0 w B v n l) (hs : SL rlC 4 w w.heap.size a m ys) (hz : a = none → m = 0 ∧ c = 0) (h63 : n + m ≤ 1000000) (hB : B ≤ w.heap.size) (ty : TypeId) :
    ∃ v' w', (Builtin.append_ #[22, 22] ty #[v, .slice a m c]).run Tryz.prog w = .ok v' w' ∧ Row0 w' B v' (n + m) (l ++ ys) ∧ Below B w w' := by
  obtain ⟨i0, hi, hi0, hi1, hi2⟩ := info_parts info_rel
  have hfl : (ys.flatMap rlC).length = m * 4 := by rw [flat_len rl_len, hs.len]
  rcases h with hown | ⟨ad, rfl, rfl, rfl⟩
  · cases a with
    | none =>
      obtain ⟨rfl, rfl⟩ := hz rfl
      have hy : ys = [] := by have := hs.len; cases ys with | nil => rfl | cons => simp at this
      subst hy
      exact ⟨v, w, run_append_owned_none w B 22 ty 48 i0 4 Tryz.underlying22 hi v n _ hown, .inl (by simpa using hown), Below.refl _ _⟩
    | some ad =>
      obtain ⟨v', w', hr, ho, hgr, -⟩ := run_append_own (P := Tryz.prog) w B 22 ty 48 i0 _ 4 32 Tryz.underlying22 hi hi0 hi1 hi2 rfl (by decide) v n _ hown ad m c (ys.flatMap rlC) hfl (hs.news rl_len (by decide)) (rl_ones ys) (by unfold maxLen; omega) (by omega) hB
      exact ⟨v', w', hr, .inl (by rw [List.flatMap_append]; exact ho), (Below.refl _ _).grown hgr hB (fun k hk => (hown.lt k hk).1)⟩
  · by_cases hm : m = 0
    · subst hm
      have hy : ys = [] := by have := hs.len; cases ys with | nil => rfl | cons => simp at this
      subst hy
      refine ⟨.slice (some ad) 0 0, w, ?_, .inr ⟨ad, rfl, rfl, rfl⟩, Below.refl _ _⟩
      cases a <;> simp [Builtin.append_, run_underlying Tryz.underlying22, sizeOf, typeInfo, hi, Builtin.lenOf, Builtin.firstCells, storeCells, loadCells, loadCellsFrom]
    · obtain ⟨ad2, rfl⟩ : ∃ ad2, a = some ad2 := by
        cases a with
        | none => exact absurd (hz rfl).1 hm
        | some x => exact ⟨x, rfl⟩
      have hr := run_append_grow (P := Tryz.prog) w 22 ty 48 i0 _ Tryz.underlying22 hi hi0 ad 0 0 [] (by simp) (by simp) ad2 m c (ys.flatMap rlC) (by rw [hi1]; exact hfl) (hs.news rl_len (by decide)) (by omega) (by omega) (by rw [Nat.zero_add, nextslicecap_zero (by omega), hi2]; omega)
      refine ⟨_, _, hr, .inl ?_, (below_drewN (Below.refl _ _) 1).alloc hB _⟩
      have hge := grownCap_ge w (0 + m) 0 48
      have hle := grownCap_le_maxLen w (0 + m) 0 48 (by unfold maxLen; omega)
      refine ⟨by rw [List.nil_append, hfl, Nat.zero_add], .inr ⟨w.heap.size, _, _, rfl, hB, heap_alloc_new w.drew _, hge, hle, ?_, ?_⟩⟩
      · rw [Array.size_append, Array.size_append, size_zeroCells]
        simp only [List.size_toArray, List.length_nil, hfl]
        show 0 + m * 4 + _ * 4 = _
        generalize grownCap w (0 + m) 0 48 = G at *
        omega
      · simp only [Array.toList_append, List.nil_append, List.toList_toArray, List.append_nil]
        rw [Nat.zero_add, List.take_append_of_le_length (by rw [hfl]; exact Nat.le_refl _), List.take_of_length_le (by rw [hfl]; exact Nat.le_refl _)]
theorem step_run {w : World} {ops : Array Oper} {o : Oper} {a : Act} {K : Act → World → Prop} {Q : Exit → Act → World → Prop} {E : Prop} (hgd : o.guard = none) (s x : Operand) (t : TypeId)
    (ho : o.op = .call { callee := .builtin .append, args := #[s, x], argTypes := #[t, t] }) (sv xv : Value) (hs : a.eval s = sv) (hx : a.eval x = xv) {v' : Value} {w' : World}
    (hr : (Builtin.append_ #[t, t] o.type #[sv, xv]).run Tryz.prog w = .ok v' w') (h : K (a.put o.dst v') w') : if Region.wanted o (yielded ops a.tmps) = true then Oper.wp Tryz.prog o a w K Q else E := by
  have hw : Region.wanted o (yielded ops a.tmps) = true := by simp [Region.wanted, hgd]
  rw [if_pos hw]
  unfold Oper.wp execOp
  simp only [ho, resolve, invoke, builtin, Sem.run_bind, Sem.run_pure, Result.andThen_ok, List.map_toArray, List.map_cons, List.map_nil, hs, hx, hr]
  exact h
open Go.ChangeShapes Go.WideShapes Go.Deep Go.RowKit

theorem own_cap {w : World} {B e sz n c : Nat} {a : Option Addr} {xs : List Value} (h : w.ownsRow B e sz (.slice a n c) n xs) : n ≤ c := by
  rcases h.2 with ⟨hv, h0⟩ | ⟨g, cap, cur, hv, _, _, h3, _⟩
  · omega
  · simp only [Value.slice.injEq] at hv; omega
theorem Row0.out {w : World} {B : Nat} {v : Value} {n : Nat} {l : List Rl} (h : Row0 w B v n l) : ∃ a c, v = .slice a n c ∧ SL rlC 4 w w.heap.size a n l ∧ (a = none → n = 0 ∧ c = 0) ∧ n ≤ c := by
  rcases h with hown | ⟨ad, rfl, rfl, rfl⟩
  · obtain ⟨a, c, rfl, h1, h2⟩ := SL.ofOwns rl_len (by decide) hown
    exact ⟨a, c, rfl, h1, h2, own_cap hown⟩
  · exact ⟨some ad, 0, rfl, SL.nil _ _ _, (fun h => by cases h), Nat.le_refl _⟩
theorem three_rb {w : World} {A Z : Array Value} {T U : TypeId} :
    RB (((w.alloc (.cells A T)).alloc (.cells Z U)).alloc (.cells #[.pointer none, .slice none 0 0] 86)) w.heap.size A T ∧ RB (((w.alloc (.cells A T)).alloc (.cells Z U)).alloc (.cells #[.pointer none, .slice none 0 0] 86)) (w.heap.size + 1) Z U ∧
    Wr (w.heap.size + 2) (w.heap.size + 2) [] (((w.alloc (.cells A T)).alloc (.cells Z U)).alloc (.cells #[.pointer none, .slice none 0 0] 86)) ∧ Below w.heap.size w (((w.alloc (.cells A T)).alloc (.cells Z U)).alloc (.cells #[.pointer none, .slice none 0 0] 86)) := by
  obtain ⟨h1, h2, h3⟩ := two_rb (w := w) (A := A) (B := Z) (T := T) (U := U)
  have hz : ((w.alloc (.cells A T)).alloc (.cells Z U)).heap.size = w.heap.size + 2 := by rw [World.size_alloc, World.size_alloc]
  have hf := Lib.fresh_isBuilder 86 5 ((w.alloc (.cells A T)).alloc (.cells Z U))
  rw [hz] at hf
  exact ⟨h1.next ((Below.refl _ _).alloc (Nat.le_refl _) _), h2.next ((Below.refl _ _).alloc (Nat.le_refl _) _), hf, h3.alloc (by rw [hz]; omega) _⟩
theorem Row0.mono {w : World} {B B' : Nat} {v : Value} {n : Nat} {l : List Rl} (h : Row0 w B v n l) (hB : B' ≤ B) : Row0 w B' v n l := by
  rcases h with h | h
  · refine .inl ⟨h.1, ?_⟩
    rcases h.2 with hh | ⟨g, cap, cur, hv, hb, r⟩
    · exact .inl hh
    · exact .inr ⟨g, cap, cur, hv, Nat.le_trans hB hb, r⟩
  · exact .inr h
theorem Row0.set {w : World} {B Y : Nat} {v : Value} {n : Nat} {l : List Rl} (h : Row0 w B v n l) (hY : Y < B) (j : Nat) (x : Value) : Row0 (w.setCell ⟨Y, j, none⟩ x) B v n l := by
  rcases h with hown | h
  · refine .inl (hown.kept (KP.step Y w j x) ?_)
    cases hv : v.ownBlock with
    | none => exact .inl rfl
    | some g => right; have := (hown.lt g hv).1; simp; omega
  · exact .inr h
abbrev gset (u : World) (Y : Nat) (x0 x1 x2 x3 x4 x5 : Value) : World := ((((((u.setCell ⟨Y, 0, none⟩ x0).setCell ⟨Y, 1, none⟩ x1).setCell ⟨Y, 2, none⟩ x2).setCell ⟨Y, 3, none⟩ x3).setCell ⟨Y, 4, none⟩ x4).setCell ⟨Y, 5, none⟩ x5)
theorem gset_heap {u : World} {Y : Nat} {y0 y1 y2 y3 y4 y5 : Value} {T : TypeId} (h : RB u Y #[y0, y1, y2, y3, y4, y5] T) (x0 x1 x2 x3 x4 x5 : Value) : RB (gset u Y x0 x1 x2 x3 x4 x5) Y #[x0, x1, x2, x3, x4, x5] T := by
  have h0 : RB (u.setCell ⟨Y, 0, none⟩ x0) Y #[x0, y1, y2, y3, y4, y5] T := h.set (j := 0) _
  have h1 : RB ((u.setCell ⟨Y, 0, none⟩ x0).setCell ⟨Y, 1, none⟩ x1) Y #[x0, x1, y2, y3, y4, y5] T := h0.set (j := 1) _
  have h2 : RB (((u.setCell ⟨Y, 0, none⟩ x0).setCell ⟨Y, 1, none⟩ x1).setCell ⟨Y, 2, none⟩ x2) Y #[x0, x1, x2, y3, y4, y5] T := h1.set (j := 2) _
  have h3 : RB ((((u.setCell ⟨Y, 0, none⟩ x0).setCell ⟨Y, 1, none⟩ x1).setCell ⟨Y, 2, none⟩ x2).setCell ⟨Y, 3, none⟩ x3) Y #[x0, x1, x2, x3, y4, y5] T := h2.set (j := 3) _
  have h4 : RB (((((u.setCell ⟨Y, 0, none⟩ x0).setCell ⟨Y, 1, none⟩ x1).setCell ⟨Y, 2, none⟩ x2).setCell ⟨Y, 3, none⟩ x3).setCell ⟨Y, 4, none⟩ x4) Y #[x0, x1, x2, x3, x4, y5] T := h3.set (j := 4) _
  have h5 : RB ((((((u.setCell ⟨Y, 0, none⟩ x0).setCell ⟨Y, 1, none⟩ x1).setCell ⟨Y, 2, none⟩ x2).setCell ⟨Y, 3, none⟩ x3).setCell ⟨Y, 4, none⟩ x4).setCell ⟨Y, 5, none⟩ x5) Y #[x0, x1, x2, x3, x4, x5] T := h4.set (j := 5) _
  exact h5
theorem gset_below {w u : World} {Y B : Nat} (h : Below B w u) (hY : B ≤ Y) (x0 x1 x2 x3 x4 x5 : Value) : Below B w (gset u Y x0 x1 x2 x3 x4 x5) :=
  ((((((h).setCell (p := ⟨Y, 0, none⟩) hY _).setCell (p := ⟨Y, 1, none⟩) hY _).setCell (p := ⟨Y, 2, none⟩) hY _).setCell (p := ⟨Y, 3, none⟩) hY _).setCell (p := ⟨Y, 4, none⟩) hY _).setCell (p := ⟨Y, 5, none⟩) hY _
theorem gset_row {w : World} {B Y : Nat} {v : Value} {n : Nat} {l : List Rl} (h : Row0 w B v n l) (hY : Y < B) (x0 x1 x2 x3 x4 x5 : Value) : Row0 (gset w Y x0 x1 x2 x3 x4 x5) B v n l :=
  ((((((h).set hY 0 _).set hY 1 _).set hY 2 _).set hY 3 _).set hY 4 _).set hY 5 _

set_option maxRecDepth 100000 in
set_option maxHeartbeats 4000000 in
theorem pGrown_any (N B D : ByteArray) (k : Int) (kp : Bool) (al : Int) (a a2 : Option Addr) (n c n2 c2 : Nat) (l q : List Rl) (w : World) (hs : SL rlC 4 w w.heap.size a n l) (hz : a = none → n = 0 ∧ c = 0) (hs2 : SL rlC 4 w w.heap.size a2 n2 q) (hz2 : a2 = none → n2 = 0 ∧ c2 = 0) (hn : n + n2 ≤ 1000000) (hsz : B.size + D.size ≤ 1000000) :
    Calls Tryz.prog 74 #[.agg #[.string N, .int .i64 k, .bool kp, .int .i64 al, .string B, .slice a n c], .string D, .slice a2 n2 c2] w
      (fun e w' => ∃ a' c', e = .returned (.agg #[.string N, .int .i64 k, .bool kp, .int .i64 al, .string ⟨(B.data.toList ++ D.data.toList).toArray⟩, (.slice a' (n + n2) c')]) ∧ Row0 w' w.heap.size (.slice a' (n + n2) c') (n + n2) (l ++ q) ∧ Below w.heap.size w w') := by
  have hZ := zeroSec
  have HS := Lib.hid hs
  have HS2 := Lib.hid hs2
  have HZ := Lib.hid hz
  have HZ2 := Lib.hid hz2
  have HN := Lib.hid (And.intro hn hsz)
  have HW := Lib.hid (three_rb (w := w) (A := #[.string N, .int .i64 k, .bool kp, .int .i64 al, .string B, .slice a n c]) (Z := #[.string ⟨#[]⟩, .int .i64 0, .bool false, .int .i64 0, .string ⟨#[]⟩, .slice none 0 0]) (T := 24) (U := 24))
  obtain ⟨X, hX⟩ : ∃ X, X = w.heap.size := ⟨_, rfl⟩
  rw [← hX] at HW
  have HXE := Lib.hid hX
  clear hs hs2 hz hz2 hn hsz
  go_enter Tryz.func74, Tryz.ntmps74
  go_wp2_with fail
  rw [← hX]
  clear hX
  change Calls _ _ _ ((((w.alloc (.cells #[.string N, .int .i64 k, .bool kp, .int .i64 al, .string B, .slice a n c] 24)).alloc (.cells #[.string ⟨#[]⟩, .int .i64 0, .bool false, .int .i64 0, .string ⟨#[]⟩, .slice none 0 0] 24)).alloc (.cells #[.pointer none, .slice none 0 0] 86))) _
  generalize ((w.alloc (.cells #[.string N, .int .i64 k, .bool kp, .int .i64 al, .string B, .slice a n c] 24)).alloc (.cells #[.string ⟨#[]⟩, .int .i64 0, .bool false, .int .i64 0, .string ⟨#[]⟩, .slice none 0 0] 24)).alloc (.cells #[.pointer none, .slice none 0 0] 86) = W0 at HW ⊢
  obtain ⟨hx, hy, hwr, hbl⟩ := HW.out
  have HX0 := Lib.hid hx
  have HY0 := Lib.hid hy
  have HR0 := Lib.hid hwr
  have HB0 : Hid (Below w.heap.size w W0) := Lib.hid (by rw [HXE.out] at hbl; exact hbl)
  have hW0 : X + 2 ≤ W0.heap.size := by have := lt_of_block hy; omega
  have HW0 := Lib.hid hW0
  clear hx hy hwr hbl HW hW0
  rw [show X + 1 + 1 = X + 2 from rfl]
  refine (writeString_any (X + 2) (X + 2) [] B W0 HR0.out (by have := HN.out.2; show 0 + B.size ≤ _; omega) HW0.out).mono ?_
  rintro e w1 ⟨rfl, hwr, hb⟩
  have HR1 : Hid (Wr (X + 2) (X + 2) (Lib.byteCells B.data.toList) w1) := Lib.hid (Or.inr hwr)
  have HB1 := Lib.hid (HB0.out.trans (hb.mono (by rw [← HXE.out]; omega)))
  have HX1 : Hid (RB w1 X #[.string N, .int .i64 k, .bool kp, .int .i64 al, .string B, .slice a n c] 24) := Lib.hid ((hb.block X (by omega)).trans HX0.out)
  have HY1 : Hid (RB w1 (X + 1) #[.string ⟨#[]⟩, .int .i64 0, .bool false, .int .i64 0, .string ⟨#[]⟩, .slice none 0 0] 24) := Lib.hid ((hb.block (X + 1) (by omega)).trans HY0.out)
  have HW1 : Hid (X + 2 ≤ w1.heap.size) := Lib.hid (Nat.le_trans HW0.out hb.size)
  clear hwr hb HX0 HY0 HR0 HW0 HB0
  go_wp2_with fail
  refine (writeString_any (X + 2) (X + 2) _ D w1 HR1.out (by have := HN.out.2; rw [Lib.byteCells_length, Array.length_toList]; show B.size + D.size ≤ _; omega) HW1.out).mono ?_
  rintro e w2 ⟨rfl, hwr, hb⟩
  have HR2 : Hid (Wr (X + 2) (X + 2) (Lib.byteCells (B.data.toList ++ D.data.toList)) w2) := Lib.hid (Or.inr (by
    have e : Lib.byteCells (B.data.toList ++ D.data.toList) = Lib.byteCells B.data.toList ++ Lib.strCells D := by unfold Lib.byteCells Lib.strCells; rw [List.map_append]
    rw [e]; exact hwr))
  have HB2 := Lib.hid (HB1.out.trans (hb.mono (by rw [← HXE.out]; omega)))
  have HX2 : Hid (RB w2 X #[.string N, .int .i64 k, .bool kp, .int .i64 al, .string B, .slice a n c] 24) := Lib.hid ((hb.block X (by omega)).trans HX1.out)
  have HY2 : Hid (RB w2 (X + 1) #[.string ⟨#[]⟩, .int .i64 0, .bool false, .int .i64 0, .string ⟨#[]⟩, .slice none 0 0] 24) := Lib.hid ((hb.block (X + 1) (by omega)).trans HY1.out)
  have HW2 : Hid (X + 2 ≤ w2.heap.size) := Lib.hid (Nat.le_trans HW1.out hb.size)
  clear hwr hb HX1 HY1 HR1 HW1 HB1
  go_wp2_with fail
  refine (Tryz.Builder_String_any (X + 2) (X + 2) _ w2 HR2.out HW2.out).mono ?_
  rintro e w3 ⟨rfl, hb⟩
  have HB3 := Lib.hid (HB2.out.trans (hb.mono (by rw [← HXE.out]; omega)))
  have HX3 : Hid (RB w3 X #[.string N, .int .i64 k, .bool kp, .int .i64 al, .string B, .slice a n c] 24) := Lib.hid ((hb.block X (by omega)).trans HX2.out)
  have HY3 : Hid (RB w3 (X + 1) #[.string ⟨#[]⟩, .int .i64 0, .bool false, .int .i64 0, .string ⟨#[]⟩, .slice none 0 0] 24) := Lib.hid ((hb.block (X + 1) (by omega)).trans HY2.out)
  have HW3 : Hid (X + 2 ≤ w3.heap.size) := Lib.hid (Nat.le_trans HW2.out hb.size)
  clear hb HX2 HY2 HR2 HW2 HB2
  generalize hL : (⟨(B.data.toList ++ D.data.toList).toArray⟩ : ByteArray) = S
  have HSL := Lib.hid hL
  clear hL
  have c4 : w3.cell? ⟨X, 4, none⟩ = some (.string B) := HX3.out.cell
  have q4 : w3.frozen? ⟨X, 4, none⟩ = false := HX3.out.frozen
  have hX4 : RB (w3.setCell ⟨X, 4, none⟩ (.string S)) X #[.string N, .int .i64 k, .bool kp, .int .i64 al, .string S, .slice a n c] 24 := HX3.out.set (j := 4) _
  have hY4 : RB (w3.setCell ⟨X, 4, none⟩ (.string S)) (X + 1) #[.string ⟨#[]⟩, .int .i64 0, .bool false, .int .i64 0, .string ⟨#[]⟩, .slice none 0 0] 24 := (hother (by omega)).trans HY3.out
  have hB4 : Below w.heap.size w (w3.setCell ⟨X, 4, none⟩ (.string S)) := HB3.out.setCell (p := ⟨X, 4, none⟩) (by rw [← HXE.out]; exact Nat.le_refl _) _
  have hW4 : X + 2 ≤ (w3.setCell ⟨X, 4, none⟩ (.string S)).heap.size := by rw [show (w3.setCell ⟨X, 4, none⟩ (.string S)).heap.size = w3.heap.size by simp [World.setCell]]; exact HW3.out
  have HX4 := Lib.hid hX4
  have HY4 := Lib.hid hY4
  have HB4 := Lib.hid hB4
  have HW4 := Lib.hid hW4
  clear hX4 hY4 hB4 hW4
  go_wp2_with fail
  generalize w3.setCell ⟨X, 4, none⟩ (.string S) = W4 at HX4 HY4 HB4 HW4 ⊢
  clear c4 q4 HX3 HY3 HB3 HW3
  have c5 : W4.cell? ⟨X, 5, none⟩ = some (.slice a n c) := HX4.out.cell
  have hd : Below W4.heap.size W4 W4.drew := (Below.refl _ _).drew
  have hsl1 : SL rlC 4 W4.drew W4.drew.heap.size a n l := (HS.out.next HB4.out).next hd
  have hsl2 : SL rlC 4 W4.drew W4.drew.heap.size a2 n2 q := (HS2.out.next HB4.out).next hd
  have hrow : Row0 W4.drew W4.heap.size (.slice a 0 0) 0 [] := by
    cases a with
    | none => exact .inl (World.ownsRow_nil _ _ _ _)
    | some ad => exact .inr ⟨ad, rfl, rfl, rfl⟩
  obtain ⟨v1, w5, hr1, hrow1, hb1⟩ := app0 hrow hsl1 HZ.out (by have := HN.out.1; omega) (Nat.le_refl _) 22
  have hb5 : Below W4.heap.size W4 w5 := hd.trans hb1
  obtain ⟨v2, w6, hr2, hrow2, hb2⟩ := app0 hrow1 ((HS2.out.next HB4.out).next hb5) HZ2.out (by have := HN.out.1; omega) hb5.size 22
  have hb6 : Below W4.heap.size W4 w6 := hb5.trans hb2
  rw [Nat.zero_add, List.nil_append] at hrow2
  obtain ⟨a', c', rfl, -, -, -⟩ := hrow2.out
  have HRow := Lib.hid hrow2
  have HX6 := Lib.hid (HX4.out.next hb6)
  have HY6 := Lib.hid (HY4.out.next hb6)
  have HB6 := Lib.hid (after HB4.out hb6)
  have HWX := Lib.hid HW4.out
  have HB4s := Lib.hid HB4.out.size
  have e5 : w6.cell? ⟨X, 5, none⟩ = some (.slice a n c) := HX6.out.cell
  have e6 : w6.frozen? ⟨X, 5, none⟩ = false := HX6.out.frozen
  clear hd hsl1 hsl2 hrow hrow1 hb1 hb5 hb2 hb6 hrow2 HX4 HY4 HB4 HW4
  first | (go_region_law ((first
    | (refine step_run rfl _ _ 22 rfl _ _ (by rfl) (by rfl) hr1 ?_)
    | (refine step_run rfl _ _ 22 rfl _ _ (by rfl) (by rfl) hr2 ?_)))) | fail
  all_goals
    clear hr1 hr2 e5 e6 c5
    have hX7 : RB (w6.setCell ⟨X, 5, none⟩ (.slice a' (n + n2) c')) X #[.string N, .int .i64 k, .bool kp, .int .i64 al, .string S, .slice a' (n + n2) c'] 24 := HX6.out.set (j := 5) _
    have hY7 : RB (w6.setCell ⟨X, 5, none⟩ (.slice a' (n + n2) c')) (X + 1) #[.string ⟨#[]⟩, .int .i64 0, .bool false, .int .i64 0, .string ⟨#[]⟩, .slice none 0 0] 24 := (hother (by omega)).trans HY6.out
    have HB7 := Lib.hid (HB6.out.setCell (p := ⟨X, 5, none⟩) (by rw [← HXE.out]; exact Nat.le_refl _) (.slice a' (n + n2) c'))
    have HR7 := Lib.hid (HRow.out.set (Y := X) (by have := HWX.out; omega) 5 (.slice a' (n + n2) c'))
    generalize w6.setCell ⟨X, 5, none⟩ (.slice a' (n + n2) c') = W7 at hX7 hY7 HB7 HR7 ⊢
    have x0 : W7.cell? ⟨X, 0, none⟩ = some (.string N) := hX7.cell
    have x1 : W7.cell? ⟨X, 1, none⟩ = some (.int .i64 k) := hX7.cell
    have x2 : W7.cell? ⟨X, 2, none⟩ = some (.bool kp) := hX7.cell
    have x3 : W7.cell? ⟨X, 3, none⟩ = some (.int .i64 al) := hX7.cell
    have x4 : W7.cell? ⟨X, 4, none⟩ = some (.string S) := hX7.cell
    have x5 : W7.cell? ⟨X, 5, none⟩ = some (.slice a' (n + n2) c') := hX7.cell
    have y0 : W7.cell? ⟨X + 1, 0, none⟩ = some (.string ⟨#[]⟩) := hY7.cell
    have y1 : W7.cell? ⟨X + 1, 1, none⟩ = some (.int .i64 0) := hY7.cell
    have y2 : W7.cell? ⟨X + 1, 2, none⟩ = some (.bool false) := hY7.cell
    have y3 : W7.cell? ⟨X + 1, 3, none⟩ = some (.int .i64 0) := hY7.cell
    have y4 : W7.cell? ⟨X + 1, 4, none⟩ = some (.string ⟨#[]⟩) := hY7.cell
    have y5 : W7.cell? ⟨X + 1, 5, none⟩ = some (.slice none 0 0) := hY7.cell
    have z0 : W7.frozen? ⟨X + 1, 0, none⟩ = false := hY7.frozen
    have z1 : W7.frozen? ⟨X + 1, 1, none⟩ = false := hY7.frozen
    have z2 : W7.frozen? ⟨X + 1, 2, none⟩ = false := hY7.frozen
    have z3 : W7.frozen? ⟨X + 1, 3, none⟩ = false := hY7.frozen
    have z4 : W7.frozen? ⟨X + 1, 4, none⟩ = false := hY7.frozen
    have z5 : W7.frozen? ⟨X + 1, 5, none⟩ = false := hY7.frozen
    have HQ := Lib.hid (gset_heap hY7 (.string N) (.int .i64 k) (.bool kp) (.int .i64 al) (.string S) (.slice a' (n + n2) c'))
    have HB8 := Lib.hid (gset_below HB7.out (Y := X + 1) (by rw [← HXE.out]; omega) (.string N) (.int .i64 k) (.bool kp) (.int .i64 al) (.string S) (.slice a' (n + n2) c'))
    have HR8 := Lib.hid (gset_row HR7.out (Y := X + 1) (by have := HWX.out; omega) (.string N) (.int .i64 k) (.bool kp) (.int .i64 al) (.string S) (.slice a' (n + n2) c'))
    clear hX7 hY7
    go_wp2
    refine bodyPost_ret (results_cell_row (P := Tryz.prog) rfl _ _ (X + 1) 24 _ (0, 0) _ rfl HQ.out Tryz.underlying24 rfl (by kernel_rfl)) rfl ?_
    rw [HSL.out]
    exact ⟨a', c', rfl, HR8.out.mono HB4s.out, HB8.out⟩
open Go.ChangeShapes Go.WideShapes Go.Deep Go.RowKit

theorem SecR.full {x : Sc × Int} {s : Sc} {er : Int} {w u : World} {a : Option Addr} {n c : Nat} {v : Value} (hx : x = (s, er)) (hn : n = s.rels.length) (hv : v = scV s a n c) (hr : Row0 u w.heap.size (.slice a n c) n s.rels) (hb : Below w.heap.size w u) : SecR x w (.returned (.tuple #[v, .int .i64 er])) u := by
  subst hx hn hv
  exact ⟨a, c, rfl, hr, hb⟩
set_option maxRecDepth 100000 in
set_option maxHeartbeats 600000 in
theorem placed_long (N B D : ByteArray) (k : Int) (kp : Bool) (al : Int) (a a2 : Option Addr) (n c n2 c2 : Nat) (l q : List Rl) (w : World) (hs : SL rlC 4 w w.heap.size a n l) (hz : a = none → n = 0 ∧ c = 0) (hs2 : SL rlC 4 w w.heap.size a2 n2 q) (hz2 : a2 = none → n2 = 0 ∧ c2 = 0) (hB : B.size ≤ 4096) (hn : n ≤ 64) (hD : D.size ≤ 100000) (hn2 : n2 ≤ 64) (h1 : 4096 < B.size + D.size) : Calls Tryz.prog 41 #[.agg #[.string N, .int .i64 k, .bool kp, .int .i64 al, .string B, .slice a n c], .string D, .slice a2 n2 c2] w (SecR (placedL ⟨N.data.toList, k, kp, al, B.data.toList, l⟩ D.data.toList q) w) := by
  have HR : Hid (placedL ⟨N.data.toList, k, kp, al, B.data.toList, l⟩ D.data.toList q = (scZ, 2)) := Lib.hid (by
    unfold placedL
    rw [if_pos]
    simp only [Array.length_toList]
    have e1 : B.data.size = B.size := rfl
    have e2 : D.data.size = D.size := rfl
    have e3 := hs.len
    have e4 := hs2.len
    left; omega)
  have t1 : 4096 - (B.size : Int) < (D.size : Int) := by omega
  have hZ := zeroSec
  have hw1 : IntKind.i64.wrap (4096 - (B.size : Int)) = 4096 - (B.size : Int) := by rw [IntKind.wrap_i64]; omega
  have hw2 : IntKind.i64.wrap (64 - (n : Int)) = 64 - (n : Int) := by rw [IntKind.wrap_i64]; omega
  have HW := Lib.hid (two_rb (w := w) (A := #[.string N, .int .i64 k, .bool kp, .int .i64 al, .string B, .slice a n c]) (B := #[.string ⟨#[]⟩, .int .i64 0, .bool false, .int .i64 0, .string ⟨#[]⟩, .slice none 0 0]) (T := 24) (U := 24))
  obtain ⟨X, hX⟩ : ∃ X, X = w.heap.size := ⟨_, rfl⟩
  rw [← hX] at HW
  have HXE := Lib.hid hX
  clear hs hz hs2 hz2 hB hn hD hn2
  go_enter Tryz.func41, Tryz.ntmps41
  go_wp2
  rw [← hX]
  refine bodyPost_ret (results_cell_two (P := Tryz.prog) rfl _ _ (X + 1) 24 _ (0, 0) _ (.int .i64 2) rfl HW.out.2.1 Tryz.underlying24 rfl (by kernel_rfl) rfl) rfl ?_
  exact SecR.bare HR.out rfl (by have := HW.out.2.2; rw [HXE.out] at this; exact this)
set_option maxRecDepth 100000 in
set_option maxHeartbeats 600000 in
theorem placed_many (N B D : ByteArray) (k : Int) (kp : Bool) (al : Int) (a a2 : Option Addr) (n c n2 c2 : Nat) (l q : List Rl) (w : World) (hs : SL rlC 4 w w.heap.size a n l) (hz : a = none → n = 0 ∧ c = 0) (hs2 : SL rlC 4 w w.heap.size a2 n2 q) (hz2 : a2 = none → n2 = 0 ∧ c2 = 0) (hB : B.size ≤ 4096) (hn : n ≤ 64) (hD : D.size ≤ 100000) (hn2 : n2 ≤ 64) (h1 : ¬ 4096 < B.size + D.size) (h2 : 64 < n + n2) : Calls Tryz.prog 41 #[.agg #[.string N, .int .i64 k, .bool kp, .int .i64 al, .string B, .slice a n c], .string D, .slice a2 n2 c2] w (SecR (placedL ⟨N.data.toList, k, kp, al, B.data.toList, l⟩ D.data.toList q) w) := by
  have HR : Hid (placedL ⟨N.data.toList, k, kp, al, B.data.toList, l⟩ D.data.toList q = (scZ, 2)) := Lib.hid (by
    unfold placedL
    rw [if_pos]
    simp only [Array.length_toList]
    have e1 : B.data.size = B.size := rfl
    have e2 : D.data.size = D.size := rfl
    have e3 := hs.len
    have e4 := hs2.len
    right; omega)
  have t1 : ¬ 4096 - (B.size : Int) < (D.size : Int) := by omega
  have t2 : 64 - (n : Int) < (n2 : Int) := by omega
  have hZ := zeroSec
  have hw1 : IntKind.i64.wrap (4096 - (B.size : Int)) = 4096 - (B.size : Int) := by rw [IntKind.wrap_i64]; omega
  have hw2 : IntKind.i64.wrap (64 - (n : Int)) = 64 - (n : Int) := by rw [IntKind.wrap_i64]; omega
  have HW := Lib.hid (two_rb (w := w) (A := #[.string N, .int .i64 k, .bool kp, .int .i64 al, .string B, .slice a n c]) (B := #[.string ⟨#[]⟩, .int .i64 0, .bool false, .int .i64 0, .string ⟨#[]⟩, .slice none 0 0]) (T := 24) (U := 24))
  obtain ⟨X, hX⟩ : ∃ X, X = w.heap.size := ⟨_, rfl⟩
  rw [← hX] at HW
  have HXE := Lib.hid hX
  clear hs hz hs2 hz2 hB hn hD hn2
  go_enter Tryz.func41, Tryz.ntmps41
  go_wp2
  rw [← hX]
  refine bodyPost_ret (results_cell_two (P := Tryz.prog) rfl _ _ (X + 1) 24 _ (0, 0) _ (.int .i64 2) rfl HW.out.2.1 Tryz.underlying24 rfl (by kernel_rfl) rfl) rfl ?_
  exact SecR.bare HR.out rfl (by have := HW.out.2.2; rw [HXE.out] at this; exact this)
set_option maxRecDepth 100000 in
set_option maxHeartbeats 600000 in
theorem placed_good (N B D : ByteArray) (k : Int) (kp : Bool) (al : Int) (a a2 : Option Addr) (n c n2 c2 : Nat) (l q : List Rl) (w : World) (hs : SL rlC 4 w w.heap.size a n l) (hz : a = none → n = 0 ∧ c = 0) (hs2 : SL rlC 4 w w.heap.size a2 n2 q) (hz2 : a2 = none → n2 = 0 ∧ c2 = 0) (hB : B.size ≤ 4096) (hn : n ≤ 64) (hD : D.size ≤ 100000) (hn2 : n2 ≤ 64) (h1 : ¬ 4096 < B.size + D.size) (h2 : ¬ 64 < n + n2) : Calls Tryz.prog 41 #[.agg #[.string N, .int .i64 k, .bool kp, .int .i64 al, .string B, .slice a n c], .string D, .slice a2 n2 c2] w (SecR (placedL ⟨N.data.toList, k, kp, al, B.data.toList, l⟩ D.data.toList q) w) := by
  have HR : Hid (placedL ⟨N.data.toList, k, kp, al, B.data.toList, l⟩ D.data.toList q = (⟨N.data.toList, k, kp, al, B.data.toList ++ D.data.toList, l ++ q⟩, 0)) := Lib.hid (by
    unfold placedL
    rw [if_neg]
    simp only [Array.length_toList]
    have e1 : B.data.size = B.size := rfl
    have e2 : D.data.size = D.size := rfl
    have e3 := hs.len
    have e4 := hs2.len
    omega)
  have HLn : Hid (n + n2 = (l ++ q).length) := Lib.hid (by rw [List.length_append, hs.len, hs2.len])
  have HG : Hid (∀ u, Below w.heap.size w u → Calls Tryz.prog 74 #[.agg #[.string N, .int .i64 k, .bool kp, .int .i64 al, .string B, .slice a n c], .string D, .slice a2 n2 c2] u (fun e w' => ∃ a' c', e = .returned (.agg #[.string N, .int .i64 k, .bool kp, .int .i64 al, .string ⟨(B.data.toList ++ D.data.toList).toArray⟩, .slice a' (n + n2) c']) ∧ Row0 w' u.heap.size (.slice a' (n + n2) c') (n + n2) (l ++ q) ∧ Below u.heap.size u w')) := Lib.hid (fun u hu => pGrown_any N B D k kp al a a2 n c n2 c2 l q u (hs.next hu) hz (hs2.next hu) hz2 (by omega) (by omega))
  have t1 : ¬ 4096 - (B.size : Int) < (D.size : Int) := by omega
  have t2 : ¬ 64 - (n : Int) < (n2 : Int) := by omega
  have hZ := zeroSec
  have hw1 : IntKind.i64.wrap (4096 - (B.size : Int)) = 4096 - (B.size : Int) := by rw [IntKind.wrap_i64]; omega
  have hw2 : IntKind.i64.wrap (64 - (n : Int)) = 64 - (n : Int) := by rw [IntKind.wrap_i64]; omega
  have HW := Lib.hid (two_rb (w := w) (A := #[.string N, .int .i64 k, .bool kp, .int .i64 al, .string B, .slice a n c]) (B := #[.string ⟨#[]⟩, .int .i64 0, .bool false, .int .i64 0, .string ⟨#[]⟩, .slice none 0 0]) (T := 24) (U := 24))
  obtain ⟨X, hX⟩ : ∃ X, X = w.heap.size := ⟨_, rfl⟩
  rw [← hX] at HW
  have HXE := Lib.hid hX
  clear hs hz hs2 hz2 hB hn hD hn2 h1 h2
  go_enter Tryz.func41, Tryz.ntmps41
  go_wp2_with fail
  rw [← hX]
  clear hX
  change Calls _ _ _ ((w.alloc (.cells #[.string N, .int .i64 k, .bool kp, .int .i64 al, .string B, .slice a n c] 24)).alloc (.cells #[.string ⟨#[]⟩, .int .i64 0, .bool false, .int .i64 0, .string ⟨#[]⟩, .slice none 0 0] 24)) _
  generalize (w.alloc (.cells #[.string N, .int .i64 k, .bool kp, .int .i64 al, .string B, .slice a n c] 24)).alloc (.cells #[.string ⟨#[]⟩, .int .i64 0, .bool false, .int .i64 0, .string ⟨#[]⟩, .slice none 0 0] 24) = W at HW ⊢
  have HB4 : Hid (Below w.heap.size w W) := Lib.hid (by have := HW.out.2.2; rw [HXE.out] at this; exact this)
  have HXl : Hid (X + 1 < W.heap.size) := Lib.hid (lt_of_block HW.out.2.1)
  refine (HG.out _ HB4.out).mono ?_
  rintro e u ⟨a', c', rfl, hrow, hb⟩
  have hy : RB u (X + 1) #[.string ⟨#[]⟩, .int .i64 0, .bool false, .int .i64 0, .string ⟨#[]⟩, .slice none 0 0] 24 := HW.out.2.1.next hb
  have HB5 := Lib.hid (after HB4.out hb)
  have y0 : u.cell? ⟨X + 1, 0, none⟩ = some (.string ⟨#[]⟩) := hy.cell
  have z0 : u.frozen? ⟨X + 1, 0, none⟩ = false := hy.frozen
  have y1 : u.cell? ⟨X + 1, 1, none⟩ = some (.int .i64 0) := hy.cell
  have z1 : u.frozen? ⟨X + 1, 1, none⟩ = false := hy.frozen
  have y2 : u.cell? ⟨X + 1, 2, none⟩ = some (.bool false) := hy.cell
  have z2 : u.frozen? ⟨X + 1, 2, none⟩ = false := hy.frozen
  have y3 : u.cell? ⟨X + 1, 3, none⟩ = some (.int .i64 0) := hy.cell
  have z3 : u.frozen? ⟨X + 1, 3, none⟩ = false := hy.frozen
  have y4 : u.cell? ⟨X + 1, 4, none⟩ = some (.string ⟨#[]⟩) := hy.cell
  have z4 : u.frozen? ⟨X + 1, 4, none⟩ = false := hy.frozen
  have y5 : u.cell? ⟨X + 1, 5, none⟩ = some (.slice none 0 0) := hy.cell
  have z5 : u.frozen? ⟨X + 1, 5, none⟩ = false := hy.frozen
  generalize hL : (⟨(B.data.toList ++ D.data.toList).toArray⟩ : ByteArray) = S
  have HSL := Lib.hid hL
  clear hL
  have HQ := Lib.hid (gset_heap hy (.string N) (.int .i64 k) (.bool kp) (.int .i64 al) (.string S) (.slice a' (n + n2) c'))
  have HB8 := Lib.hid (gset_below HB5.out (Y := X + 1) (by rw [← HXE.out]; omega) (.string N) (.int .i64 k) (.bool kp) (.int .i64 al) (.string S) (.slice a' (n + n2) c'))
  have HR8 := Lib.hid ((gset_row hrow (Y := X + 1) HXl.out (.string N) (.int .i64 k) (.bool kp) (.int .i64 al) (.string S) (.slice a' (n + n2) c')).mono HB4.out.size)
  clear hy hrow hb
  go_wp2
  refine bodyPost_ret (results_cell_two (P := Tryz.prog) rfl _ _ (X + 1) 24 _ (0, 0) _ (.int .i64 0) rfl HQ.out Tryz.underlying24 rfl (by kernel_rfl) rfl) rfl ?_
  refine SecR.full HR.out HLn.out ?_ HR8.out HB8.out
  rw [← HSL.out]
theorem placed_any (N B D : ByteArray) (k : Int) (kp : Bool) (al : Int) (a a2 : Option Addr) (n c n2 c2 : Nat) (l q : List Rl) (w : World) (hs : SL rlC 4 w w.heap.size a n l) (hz : a = none → n = 0 ∧ c = 0) (hs2 : SL rlC 4 w w.heap.size a2 n2 q) (hz2 : a2 = none → n2 = 0 ∧ c2 = 0) (hB : B.size ≤ 4096) (hn : n ≤ 64) (hD : D.size ≤ 100000) (hn2 : n2 ≤ 64) : Calls Tryz.prog 41 #[.agg #[.string N, .int .i64 k, .bool kp, .int .i64 al, .string B, .slice a n c], .string D, .slice a2 n2 c2] w (SecR (placedL ⟨N.data.toList, k, kp, al, B.data.toList, l⟩ D.data.toList q) w) := by
  by_cases h1 : 4096 < B.size + D.size
  · exact placed_long N B D k kp al a a2 n c n2 c2 l q w hs hz hs2 hz2 hB hn hD hn2 h1
  · by_cases h2 : 64 < n + n2
    · exact placed_many N B D k kp al a a2 n c n2 c2 l q w hs hz hs2 hz2 hB hn hD hn2 h1 h2
    · exact placed_good N B D k kp al a a2 n c n2 c2 l q w hs hz hs2 hz2 hB hn hD hn2 h1 h2
open Go.ChangeShapes Go.WideShapes Go.Deep Go.RowKit

set_option maxRecDepth 100000 in
set_option maxHeartbeats 600000 in
theorem pPut_no (N B D : ByteArray) (k : Int) (kp : Bool) (al : Int) (a : Option Addr) (n c : Nat) (l : List Rl) (w : World) (hs : SL rlC 4 w w.heap.size a n l) (hz : a = none → n = 0 ∧ c = 0) (hN : N.size ≤ maxLen) (hBm : B.size ≤ maxLen) (hg : ∀ r ∈ l, GoodRl r) (hD : D.size ≤ 100000) (hT : TabP w) (hsec : secR ⟨N.data.toList, k, kp, al, B.data.toList, l⟩ = false) : Calls Tryz.prog 18 #[.agg #[.string N, .int .i64 k, .bool kp, .int .i64 al, .string B, .slice a n c], .string D] w (SecR (pPutL ⟨N.data.toList, k, kp, al, B.data.toList, l⟩ D.data.toList) w) := by
  have HR : Hid (pPutL ⟨N.data.toList, k, kp, al, B.data.toList, l⟩ D.data.toList = (scZ, 1)) := Lib.hid (by unfold pPutL; rw [hsec]; rfl)
  have hZ := zeroSec
  have HI : Hid (∀ u, Below w.heap.size w u → Calls Tryz.prog 16 #[.agg #[.string N, .int .i64 k, .bool kp, .int .i64 al, .string B, .slice a n c]] u (RetB (.bool (secR ⟨N.data.toList, k, kp, al, B.data.toList, l⟩)) u)) := Lib.hid (fun u hu => pIs_core N B k kp al a n c l hN hBm u (hs.next hu) hg (hT.next hu))
  rw [hsec] at HI
  have HW := Lib.hid (two_rb (w := w) (A := #[.string N, .int .i64 k, .bool kp, .int .i64 al, .string B, .slice a n c]) (B := #[.string ⟨#[]⟩, .int .i64 0, .bool false, .int .i64 0, .string ⟨#[]⟩, .slice none 0 0]) (T := 24) (U := 24))
  obtain ⟨X, hX⟩ : ∃ X, X = w.heap.size := ⟨_, rfl⟩
  rw [← hX] at HW
  have HXE := Lib.hid hX
  clear hs hz hN hBm hg hD hT hsec
  go_enter Tryz.func18, Tryz.ntmps18
  go_wp2_with fail
  rw [← hX]
  clear hX
  change Calls _ _ _ ((w.alloc (.cells #[.string N, .int .i64 k, .bool kp, .int .i64 al, .string B, .slice a n c] 24)).alloc (.cells #[.string ⟨#[]⟩, .int .i64 0, .bool false, .int .i64 0, .string ⟨#[]⟩, .slice none 0 0] 24)) _
  generalize (w.alloc (.cells #[.string N, .int .i64 k, .bool kp, .int .i64 al, .string B, .slice a n c] 24)).alloc (.cells #[.string ⟨#[]⟩, .int .i64 0, .bool false, .int .i64 0, .string ⟨#[]⟩, .slice none 0 0] 24) = W at HW ⊢
  have HB4 : Hid (Below w.heap.size w W) := Lib.hid (by have := HW.out.2.2; rw [HXE.out] at this; exact this)
  refine (HI.out _ HB4.out).mono ?_
  rintro e u ⟨rfl, hb⟩
  have hx : RB u X #[.string N, .int .i64 k, .bool kp, .int .i64 al, .string B, .slice a n c] 24 := HW.out.1.next hb
  have hy : RB u (X + 1) #[.string ⟨#[]⟩, .int .i64 0, .bool false, .int .i64 0, .string ⟨#[]⟩, .slice none 0 0] 24 := HW.out.2.1.next hb
  have HB5 := Lib.hid (after HB4.out hb)
  clear hb
  have y0 : u.cell? ⟨X + 1, 0, none⟩ = some (.string ⟨#[]⟩) := hy.cell
  have z0 : u.frozen? ⟨X + 1, 0, none⟩ = false := hy.frozen
  have y1 : u.cell? ⟨X + 1, 1, none⟩ = some (.int .i64 0) := hy.cell
  have z1 : u.frozen? ⟨X + 1, 1, none⟩ = false := hy.frozen
  have y2 : u.cell? ⟨X + 1, 2, none⟩ = some (.bool false) := hy.cell
  have z2 : u.frozen? ⟨X + 1, 2, none⟩ = false := hy.frozen
  have y3 : u.cell? ⟨X + 1, 3, none⟩ = some (.int .i64 0) := hy.cell
  have z3 : u.frozen? ⟨X + 1, 3, none⟩ = false := hy.frozen
  have y4 : u.cell? ⟨X + 1, 4, none⟩ = some (.string ⟨#[]⟩) := hy.cell
  have z4 : u.frozen? ⟨X + 1, 4, none⟩ = false := hy.frozen
  have y5 : u.cell? ⟨X + 1, 5, none⟩ = some (.slice none 0 0) := hy.cell
  have z5 : u.frozen? ⟨X + 1, 5, none⟩ = false := hy.frozen
  have HQ := Lib.hid (gset_heap hy (.string ⟨#[]⟩) (.int .i64 0) (.bool false) (.int .i64 0) (.string ⟨#[]⟩) (.slice none 0 0))
  have HB8 := Lib.hid (gset_below HB5.out (Y := X + 1) (by rw [← HXE.out]; omega) (.string ⟨#[]⟩) (.int .i64 0) (.bool false) (.int .i64 0) (.string ⟨#[]⟩) (.slice none 0 0))
  clear hx hy
  go_wp2
  refine bodyPost_ret (results_cell_two (P := Tryz.prog) rfl _ _ (X + 1) 24 _ (0, 0) _ (.int .i64 1) rfl HQ.out Tryz.underlying24 rfl (by kernel_rfl) rfl) rfl ?_
  exact SecR.bare HR.out rfl HB8.out
set_option maxRecDepth 100000 in
set_option maxHeartbeats 600000 in
theorem pPut_yes (N B D : ByteArray) (k : Int) (kp : Bool) (al : Int) (a : Option Addr) (n c : Nat) (l : List Rl) (w : World) (hs : SL rlC 4 w w.heap.size a n l) (hz : a = none → n = 0 ∧ c = 0) (hN : N.size ≤ maxLen) (hBm : B.size ≤ maxLen) (hg : ∀ r ∈ l, GoodRl r) (hD : D.size ≤ 100000) (hT : TabP w) (hsec : secR ⟨N.data.toList, k, kp, al, B.data.toList, l⟩ = true) : Calls Tryz.prog 18 #[.agg #[.string N, .int .i64 k, .bool kp, .int .i64 al, .string B, .slice a n c], .string D] w (SecR (pPutL ⟨N.data.toList, k, kp, al, B.data.toList, l⟩ D.data.toList) w) := by
  obtain ⟨t, er, ht⟩ : ∃ t er, placedL ⟨N.data.toList, k, kp, al, B.data.toList, l⟩ D.data.toList [] = (t, er) := ⟨_, _, rfl⟩
  have HR : Hid (pPutL ⟨N.data.toList, k, kp, al, B.data.toList, l⟩ D.data.toList = (t, er)) := Lib.hid (by unfold pPutL; rw [if_pos hsec, ht])
  obtain ⟨-, -, -, -, -, g6, g7⟩ := head_iff.1 (sec_iff.1 hsec).1
  simp only at g6 g7
  have hBs : B.data.toList.length = B.size := by simp
  have hln := hs.len
  have HP : Hid (∀ u, Below w.heap.size w u → Calls Tryz.prog 41 #[.agg #[.string N, .int .i64 k, .bool kp, .int .i64 al, .string B, .slice a n c], .string D, .slice none 0 0] u (SecR (t, er) u)) := Lib.hid (fun u hu => by
    have := placed_any N B D k kp al a none n c 0 0 l [] u (hs.next hu) hz (SL.nil _ _ _) (fun _ => ⟨rfl, rfl⟩) (by omega) (by omega) hD (by omega)
    rw [ht] at this
    exact this)
  have hZ := zeroSec
  have HI : Hid (∀ u, Below w.heap.size w u → Calls Tryz.prog 16 #[.agg #[.string N, .int .i64 k, .bool kp, .int .i64 al, .string B, .slice a n c]] u (RetB (.bool (secR ⟨N.data.toList, k, kp, al, B.data.toList, l⟩)) u)) := Lib.hid (fun u hu => pIs_core N B k kp al a n c l hN hBm u (hs.next hu) hg (hT.next hu))
  rw [hsec] at HI
  have HW := Lib.hid (two_rb (w := w) (A := #[.string N, .int .i64 k, .bool kp, .int .i64 al, .string B, .slice a n c]) (B := #[.string ⟨#[]⟩, .int .i64 0, .bool false, .int .i64 0, .string ⟨#[]⟩, .slice none 0 0]) (T := 24) (U := 24))
  obtain ⟨X, hX⟩ : ∃ X, X = w.heap.size := ⟨_, rfl⟩
  rw [← hX] at HW
  have HXE := Lib.hid hX
  clear g6 g7 hBs hln ht
  clear hs hz hN hBm hg hD hT hsec
  go_enter Tryz.func18, Tryz.ntmps18
  go_wp2_with fail
  rw [← hX]
  clear hX
  change Calls _ _ _ ((w.alloc (.cells #[.string N, .int .i64 k, .bool kp, .int .i64 al, .string B, .slice a n c] 24)).alloc (.cells #[.string ⟨#[]⟩, .int .i64 0, .bool false, .int .i64 0, .string ⟨#[]⟩, .slice none 0 0] 24)) _
  generalize (w.alloc (.cells #[.string N, .int .i64 k, .bool kp, .int .i64 al, .string B, .slice a n c] 24)).alloc (.cells #[.string ⟨#[]⟩, .int .i64 0, .bool false, .int .i64 0, .string ⟨#[]⟩, .slice none 0 0] 24) = W at HW ⊢
  have HB4 : Hid (Below w.heap.size w W) := Lib.hid (by have := HW.out.2.2; rw [HXE.out] at this; exact this)
  refine (HI.out _ HB4.out).mono ?_
  rintro e u ⟨rfl, hb⟩
  have hx : RB u X #[.string N, .int .i64 k, .bool kp, .int .i64 al, .string B, .slice a n c] 24 := HW.out.1.next hb
  have hy : RB u (X + 1) #[.string ⟨#[]⟩, .int .i64 0, .bool false, .int .i64 0, .string ⟨#[]⟩, .slice none 0 0] 24 := HW.out.2.1.next hb
  have HB5 := Lib.hid (after HB4.out hb)
  clear hb
  have x0 : u.cell? ⟨X, 0, none⟩ = some (.string N) := hx.cell
  have x1 : u.cell? ⟨X, 1, none⟩ = some (.int .i64 k) := hx.cell
  have x2 : u.cell? ⟨X, 2, none⟩ = some (.bool kp) := hx.cell
  have x3 : u.cell? ⟨X, 3, none⟩ = some (.int .i64 al) := hx.cell
  have x4 : u.cell? ⟨X, 4, none⟩ = some (.string B) := hx.cell
  have x5 : u.cell? ⟨X, 5, none⟩ = some (.slice a n c) := hx.cell
  have HXl : Hid (X + 1 < u.heap.size) := Lib.hid (lt_of_block hy)
  have HYu := Lib.hid hy
  clear hx hy
  go_wp2_with fail
  refine (HP.out _ HB5.out).mono ?_
  rintro e v ⟨a', c', rfl, hrow, hb⟩
  simp only at hrow
  have hy : RB v (X + 1) #[.string ⟨#[]⟩, .int .i64 0, .bool false, .int .i64 0, .string ⟨#[]⟩, .slice none 0 0] 24 := HYu.out.next hb
  have HB6 := Lib.hid (after HB5.out hb)
  obtain ⟨m, hm⟩ : ∃ m, m = t.rels.length := ⟨_, rfl⟩
  simp only [← hm] at hrow ⊢
  have HM := Lib.hid hm
  have y0 : v.cell? ⟨X + 1, 0, none⟩ = some (.string ⟨#[]⟩) := hy.cell
  have z0 : v.frozen? ⟨X + 1, 0, none⟩ = false := hy.frozen
  have y1 : v.cell? ⟨X + 1, 1, none⟩ = some (.int .i64 0) := hy.cell
  have z1 : v.frozen? ⟨X + 1, 1, none⟩ = false := hy.frozen
  have y2 : v.cell? ⟨X + 1, 2, none⟩ = some (.bool false) := hy.cell
  have z2 : v.frozen? ⟨X + 1, 2, none⟩ = false := hy.frozen
  have y3 : v.cell? ⟨X + 1, 3, none⟩ = some (.int .i64 0) := hy.cell
  have z3 : v.frozen? ⟨X + 1, 3, none⟩ = false := hy.frozen
  have y4 : v.cell? ⟨X + 1, 4, none⟩ = some (.string ⟨#[]⟩) := hy.cell
  have z4 : v.frozen? ⟨X + 1, 4, none⟩ = false := hy.frozen
  have y5 : v.cell? ⟨X + 1, 5, none⟩ = some (.slice none 0 0) := hy.cell
  have z5 : v.frozen? ⟨X + 1, 5, none⟩ = false := hy.frozen
  have HQ := Lib.hid (gset_heap hy (.string ⟨t.name.toArray⟩) (.int .i64 t.kind) (.bool t.keep) (.int .i64 t.align) (.string ⟨t.data.toArray⟩) (.slice a' m c'))
  have HB8 := Lib.hid (gset_below HB6.out (Y := X + 1) (by rw [← HXE.out]; omega) (.string ⟨t.name.toArray⟩) (.int .i64 t.kind) (.bool t.keep) (.int .i64 t.align) (.string ⟨t.data.toArray⟩) (.slice a' m c'))
  have HR8 := Lib.hid ((gset_row hrow (Y := X + 1) HXl.out (.string ⟨t.name.toArray⟩) (.int .i64 t.kind) (.bool t.keep) (.int .i64 t.align) (.string ⟨t.data.toArray⟩) (.slice a' m c')).mono HB5.out.size)
  clear hy hrow hb hm x0 x1 x2 x3 x4 x5
  go_wp2
  refine bodyPost_ret (results_cell_two (P := Tryz.prog) rfl _ _ (X + 1) 24 _ (0, 0) _ (.int .i64 er) rfl HQ.out Tryz.underlying24 rfl (by kernel_rfl) rfl) rfl ?_
  exact SecR.full HR.out HM.out rfl HR8.out HB8.out
theorem pPut_any (N B D : ByteArray) (k : Int) (kp : Bool) (al : Int) (a : Option Addr) (n c : Nat) (l : List Rl) (w : World) (hs : SL rlC 4 w w.heap.size a n l) (hz : a = none → n = 0 ∧ c = 0) (hN : N.size ≤ maxLen) (hBm : B.size ≤ maxLen) (hg : ∀ r ∈ l, GoodRl r) (hD : D.size ≤ 100000) (hT : TabP w) : Calls Tryz.prog 18 #[.agg #[.string N, .int .i64 k, .bool kp, .int .i64 al, .string B, .slice a n c], .string D] w (SecR (pPutL ⟨N.data.toList, k, kp, al, B.data.toList, l⟩ D.data.toList) w) := by
  cases hsec : secR ⟨N.data.toList, k, kp, al, B.data.toList, l⟩
  · exact pPut_no N B D k kp al a n c l w hs hz hN hBm hg hD hT hsec
  · exact pPut_yes N B D k kp al a n c l w hs hz hN hBm hg hD hT hsec
end Go.Proofs.YtmlofdolenmkoaaGreatDoor
