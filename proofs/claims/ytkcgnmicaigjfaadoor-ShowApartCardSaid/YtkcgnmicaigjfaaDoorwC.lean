/- show: the builder inside show.writer. -/
import Derived.Test.YtkcgnmicaigjfaaDoorS
import Derived.RegionTactic
import Derived.ChangeAlike
import Derived.Lib.Builder
import Derived.Lib.AppendStr
import Derived.Lib.UnsafeStr
import Derived.Laws.Externs
import Derived.Lib.OthersKept
namespace Go.Proofs.YtkcgnmicaigjfaaDoor
set_option linter.unusedVariables false
set_option linter.unusedSimpArgs false
open Go.RowKit

/-- A writer in a block of its own, from B on: p holds the builder's own address or none, its bytes are bs, its items k. -/
def W3 (B b : Nat) (p : Value) (k : Int) (bs : List UInt8) (w : World) : Prop :=
  B ≤ b ∧ ∃ v, w.heap[b]? = some (.cells #[p, v, .int .i64 k] 42 (0, 0)) ∧ w.ownsRow B 5 1 v (Lib.byteCells bs).length (Lib.byteCells bs) ∧ v.ownBlock ≠ some b
def IsW (B b : Nat) (k : Int) (bs : List UInt8) (w : World) : Prop := W3 B b (.pointer none) k bs w ∨ W3 B b (.pointer (some ⟨b, 0, none⟩)) k bs w
theorem w3_lt {w : World} {b : Nat} {x : Obj} (h : w.heap[b]? = some x) : b < w.heap.size := (Array.getElem?_eq_some_iff.1 h).1
theorem W3.below {B b : Nat} {p : Value} {k : Int} {bs : List UInt8} {w w' : World} (h : W3 B b p k bs w) (hb : Below w.heap.size w w') : W3 B b p k bs w' := by
  obtain ⟨hB, v, h1, h2, h3⟩ := h
  have hlt := w3_lt h1
  refine ⟨hB, v, (hb.block b hlt).trans h1, ⟨h2.1, ?_⟩, h3⟩
  rcases h2.2 with ⟨hv, h0⟩ | ⟨g, cap, cur, hv, hBg, hg, r⟩
  · exact .inl ⟨hv, h0⟩
  · exact .inr ⟨g, cap, cur, hv, hBg, (hb.block g (w3_lt hg)).trans hg, r⟩
theorem IsW.below {B b : Nat} {k : Int} {bs : List UInt8} {w w' : World} (h : IsW B b k bs w) (hb : Below w.heap.size w w') : IsW B b k bs w' := h.imp (·.below hb) (·.below hb)
theorem W3.set (B b : Nat) {p p' v v' k : Value} {w : World} {bs : List UInt8} {K : Int} (o : Nat) (x : Value) (hB : B ≤ b) (h1 : w.heap[b]? = some (.cells #[p, v, k] 42 (0, 0))) (h2 : w.ownsRow B 5 1 v' (Lib.byteCells bs).length (Lib.byteCells bs))
    (hs : #[p, v, k].setIfInBounds o x = #[p', v', .int .i64 K]) : W3 B b p' K bs (w.setCell ⟨b, o, none⟩ x) := by
  have hne := Lib.ownBlock_ne h2 h1 (by decide)
  refine ⟨hB, v', ?_, ?_, hne⟩
  · rw [← hs]
    simp [World.setCell, Array.getElem?_modify, h1]
  · exact h2.kept (row := some b) ⟨rfl, rfl, rfl, by simp [World.setCell], fun k _ hk => Below.heap_setCell _ _ _ _ (fun e => hk (by simp [e]))⟩ (Or.inr hne)
theorem infoB : (Tryd.prog.info? 40).map (·.size) = some 2 := by kernel_rfl
theorem infoU : (Tryd.prog.info? 5).map (fun i => (i.zero, i.size, i.bytes)) = some (some (.int .u8 0), 1, 1) := by kernel_rfl
theorem ptrB : Tryd.prog.underlying 37 = some (.pointer 40) := by kernel_rfl
theorem ptrX : Tryd.prog.underlying 71 = some .unsafePointer := by kernel_rfl
theorem liesW : liesAt Tryd.prog Tryd.prog.depth 42 (3 / Tryd.prog.cellsOf 42) 0 40 1 = true := by kernel_rfl
set_option maxRecDepth 100000 in
set_option maxHeartbeats 1000000 in
theorem copyCheck_used (b : Nat) (w : World) (h0 : w.cell? ⟨b, 0, none⟩ = some (.pointer (some ⟨b, 0, none⟩))) :
    Calls Tryd.prog 21 #[.pointer (some ⟨b, 0, none⟩)] w fun e w' => e = .returned (.tuple #[]) ∧ w' = w := by
  obtain ⟨j, hj, _⟩ := Option.map_eq_some_iff.1 infoB
  go_enter Tryd.func21, Tryd.ntmps21
  go_wp2
  rw [Lib.run_neq_ptr_same w _ ptrB hj]
  go_wp2
  go_end0
  exact ⟨rfl, rfl⟩
set_option maxRecDepth 100000 in
set_option maxHeartbeats 1000000 in
theorem copyCheck_fresh (b : Nat) (w : World) (h0 : w.cell? ⟨b, 0, none⟩ = some (.pointer none)) (hsh : w.shape? b = some (42, 3)) (hfz : w.frozen? ⟨b, 0, none⟩ = false) :
    Calls Tryd.prog 21 #[.pointer (some ⟨b, 0, none⟩)] w fun e w' => e = .returned (.tuple #[]) ∧ w' = w.setCell ⟨b, 0, none⟩ (.pointer (some ⟨b, 0, none⟩)) := by
  obtain ⟨j, hj, hjs⟩ := Option.map_eq_some_iff.1 infoB
  have hcv : (convert 37 71 (.pointer (some ⟨b, 0, none⟩))).run Tryd.prog w = .ok (.pointer (some ⟨b, 0, none⟩)) w :=
    Lib.run_to_unsafe w ⟨b, 0, none⟩ ptrB ptrX hj (by rw [hjs]; decide) hsh (Nat.zero_lt_succ 2)
  have hcb : (convert 71 37 (.pointer (some ⟨b, 0, none⟩))).run Tryd.prog w = .ok (.pointer (some ⟨b, 0, none⟩)) w :=
    Lib.run_from_unsafe w ⟨b, 0, none⟩ ptrX ptrB hj hsh liesW
  have hcl : (callFunc 39 #[.pointer (some ⟨b, 0, none⟩)]).run Tryd.prog w = .ok (.value (.pointer (some ⟨b, 0, none⟩))) w := by
    rw [run_callFunc_extern Tryd.func39 (by kernel_rfl) (by kernel_rfl) (by kernel_rfl) (e := Extern.AbiNoEscape.same) (by kernel_rfl), Lib.run_noEscape]
    rfl
  go_enter Tryd.func21, Tryd.ntmps21
  go_wp2
  go_end0
  exact ⟨rfl, rfl⟩
/-- What lies in no row of bytes and is not the writer stands. -/
abbrev OK (b : Nat) (w w' : World) : Prop := Lib.OthersKept 5 (some b) w w'
theorem OK.of_below {b : Nat} {w w' : World} (h : Below w.heap.size w w') : OK b w w' := fun k o hk _ _ => (h.block k (w3_lt hk)).trans hk
theorem row_kind {w : World} {B : Nat} {e : TypeId} {v : Value} {n : Nat} {xs : List Value} (h : w.ownsRow B e 1 v n xs) : ∀ g, v.ownBlock = some g → ∃ c fz, w.heap[g]? = some (.cells c e fz) := by
  intro g hg
  rcases h.2 with ⟨rfl, _⟩ | ⟨g', cap, cur, rfl, _, hgg, _⟩
  · simp [Value.ownBlock] at hg
  · simp only [Value.ownBlock, Option.some.injEq] at hg
    subst hg
    exact ⟨_, _, hgg⟩
theorem copyCheck_any (B b : Nat) (k : Int) (bs : List UInt8) (w : World) (h : IsW B b k bs w) :
    Calls Tryd.prog 21 #[.pointer (some ⟨b, 0, none⟩)] w fun e w' => e = .returned (.tuple #[]) ∧ (W3 B b (.pointer (some ⟨b, 0, none⟩)) k bs w' ∧ Below B w w' ∧ OK b w w') := by
  rcases h with h | h
  · obtain ⟨hB, v, h1, h2, h3⟩ := h
    refine (copyCheck_fresh b w (by rw [Lib.cell_of_heap h1]; rfl) (by simp [World.shape?, h1]) (Lib.frozen_of_heap h1 0)).mono ?_
    rintro e w' ⟨rfl, rfl⟩
    exact ⟨rfl, W3.set B b 0 _ hB h1 h2 rfl, (Below.refl B w).setCell (p := ⟨b, 0, none⟩) hB _, (Lib.OthersKept.refl _ _ w).setCell ⟨b, 0, none⟩ rfl _⟩
  · refine (copyCheck_used b w (by obtain ⟨hB, v, h1, h2, h3⟩ := h; rw [Lib.cell_of_heap h1]; rfl)).mono ?_
    rintro e w' ⟨rfl, rfl⟩
    exact ⟨rfl, h, Below.refl B _, Lib.OthersKept.refl _ _ _⟩
set_option maxRecDepth 100000 in
set_option maxHeartbeats 2000000 in
theorem writeString_any (B b : Nat) (k : Int) (bs : List UInt8) (s : ByteArray) (w : World) (h : IsW B b k bs w) (hlen : bs.length + s.size ≤ 140737488355328) (hBw : B ≤ w.heap.size) :
    Calls Tryd.prog 11 #[.pointer (some ⟨b, 0, none⟩), .string s] w fun e w' => e = .returned (.tuple #[.int .i64 s.size, .nilIface]) ∧ (IsW B b k (bs ++ s.data.toList) w' ∧ Below B w w' ∧ OK b w w') := by
  obtain ⟨i0, hi, hz0, hz1, hz2⟩ := info_parts infoU
  go_enter Tryd.func11, Tryd.ntmps11
  go_wp2_with fail
  refine (copyCheck_any B b k bs _ h).mono ?_
  rintro e w1 ⟨rfl, h1, hb1, hk1⟩
  obtain ⟨hB, v, hbk, hown, hne⟩ := h1
  have c0 : w1.cell? ⟨b, 0, none⟩ = some (.pointer (some ⟨b, 0, none⟩)) := by rw [Lib.cell_of_heap hbk]; rfl
  have c1 : w1.cell? ⟨b, 1, none⟩ = some v := by rw [Lib.cell_of_heap hbk]; rfl
  go_wp2_with (at_builtin; refine Lib.wpList_append_own_string _ rfl _ _ 38 9 rfl B 5 i0 Tryd.underlying38 Tryd.underlying9 hi hz0 hz1 hz2 _ _ _ rfl hown s rfl ?c3 ?c4 ?c5 ?_)
  case c3 => unfold maxLen; rw [Lib.byteCells_length]; omega
  case c4 => rw [Lib.byteCells_length]; omega
  case c5 => have := hb1.size; omega
  intro v' w2 hown' hgrow _
  have hlt : b < w1.heap.size := (Array.getElem?_eq_some_iff.1 hbk).1
  have hb2 : w2.heap[b]? = some (.cells #[.pointer (some ⟨b, 0, none⟩), v, .int .i64 k] 42 (0, 0)) := by
    rw [hgrow.block b hlt (fun e => hne e.symm)]
    exact hbk
  have d0 : w2.cell? ⟨b, 0, none⟩ = some (.pointer (some ⟨b, 0, none⟩)) := by rw [Lib.cell_of_heap hb2]; rfl
  have d1 : w2.cell? ⟨b, 1, none⟩ = some v := by rw [Lib.cell_of_heap hb2]; rfl
  have f1 : w2.frozen? ⟨b, 1, none⟩ = false := Lib.frozen_of_heap hb2 1
  obtain ⟨ao, n', cap, rfl⟩ : ∃ ao n' cap, v' = .slice ao n' cap := by
    rcases hown'.2 with ⟨hv, _⟩ | ⟨g, cap, cur, hv, _⟩
    · exact ⟨_, _, _, hv⟩
    · exact ⟨_, _, _, hv⟩
  go_wp2
  go_ret2
  refine ⟨rfl, .inr ?_, ?_, (hk1.grown hgrow (row_kind hown)).setCell ⟨b, 1, none⟩ rfl _⟩
  · have e : Lib.byteCells (bs ++ s.data.toList) = Lib.byteCells bs ++ Lib.strCells s := by rw [Lib.byteCells_append, Lib.strCells_eq]
    exact W3.set B b 1 _ hB hb2 (bs := bs ++ s.data.toList) (by rw [e, List.length_append, Lib.strCells_length]; exact hown') rfl
  · exact (hb1.grown hgrow (by have := hb1.size; omega) (fun k hk => (hown.lt k hk).1)).setCell (p := ⟨b, 1, none⟩) hB _
set_option maxRecDepth 100000 in
set_option maxHeartbeats 1000000 in
/-- String, of a writer that holds a byte. -/
theorem string_some (B b : Nat) (k : Int) (l : List UInt8) (w : World) (h : IsW B b k l w) (h0 : l ≠ []) :
    Calls Tryd.prog 15 #[.pointer (some ⟨b, 0, none⟩)] w fun e w' => e = .returned (.string ⟨l.toArray⟩) ∧ Below B w w' := by
  obtain ⟨p, hB, v, hbk, hown, hne⟩ : ∃ p, W3 B b p k l w := by
    rcases h with h | h
    · exact ⟨_, h⟩
    · exact ⟨_, h⟩
  have hl0 : l.length ≠ 0 := by simpa using h0
  rw [Lib.byteCells_length] at hown
  obtain ⟨g, cap, cur, rfl, hbg, hg, hnc, hcm, hcs, htake⟩ : ∃ g cap cur, v = .slice (some ⟨g, 0, none⟩) l.length cap ∧ B ≤ g ∧ w.heap[g]? = some (.cells cur 5 (0, 0)) ∧ l.length ≤ cap ∧ cap ≤ maxLen ∧ cur.size = cap * 1 ∧ cur.toList.take (l.length * 1) = Lib.byteCells l := by
    rcases hown.2 with ⟨_, hz⟩ | ⟨g, cap, cur, hv, r⟩
    · exact absurd hz hl0
    · exact ⟨g, cap, cur, hv, r⟩
  have c1 : w.drew.cell? ⟨b, 1, none⟩ = some (.slice (some ⟨g, 0, none⟩) l.length cap) := by
    have : w.drew.heap[b]? = some (.cells #[p, .slice (some ⟨g, 0, none⟩) l.length cap, .int .i64 k] 42 (0, 0)) := hbk
    rw [Lib.cell_of_heap this]; rfl
  have hSD : (Builtin.unsafeSliceData_ #[38] 63 #[.slice (some ⟨g, 0, none⟩) l.length cap]).run Tryd.prog w.drew = .ok (.pointer (some ⟨g, 0, none⟩)) w.drew :=
    Lib.run_unsafeSliceData_row _ _ _ _ _ _ (by omega)
  have hUS : (Builtin.unsafeString_ #[63, 3] 9 #[.pointer (some ⟨g, 0, none⟩), .int .i64 l.length]).run Tryd.prog w.drew = .ok (.string ⟨l.toArray⟩) (w.drew.freeze ⟨g, 0, none⟩ l.length) := by
    refine Lib.run_unsafeString_row w.drew 63 3 9 5 (by kernel_rfl) (by kernel_rfl) g cur.size (by have hg' : w.drew.heap[g]? = some (.cells cur 5 (0, 0)) := hg; simp [World.shape?, hg']) l h0 (by omega) (by unfold maxLen at hcm; omega) ?_
    intro j x hx
    have := hown.cells (g := g) rfl j (.int .u8 x.toNat) (by simp [Lib.byteCells, hx])
    exact this
  go_enter Tryd.func15, Tryd.ntmps15
  go_wp2
  go_region
  all_goals (go_wp2; go_ret; exact ⟨rfl, Lib.below_freeze (Below.drew (Below.refl B w)) (p := ⟨g, 0, none⟩) hbg _⟩)
set_option maxRecDepth 100000 in
set_option maxHeartbeats 2000000 in
theorem put_any (B b : Nat) (k : Nat) (bs : List UInt8) (s : ByteArray) (w : World) (h : IsW B b (k : Int) bs w) (hk : k ≤ 100) (hlen : bs.length + s.size ≤ 140737488355000) (hBw : B ≤ w.heap.size) :
    Calls Tryd.prog 41 #[.pointer (some ⟨b, 0, none⟩), .string s] w fun e w' => e = .returned (.tuple #[]) ∧ (IsW B b ((k + 1 : Nat) : Int) (bs ++ (if k = 0 then [32] else [44, 32]) ++ s.data.toList) w' ∧ Below B w w' ∧ OK b w w') := by
  have HB : B ≤ b := by rcases h with h | h <;> exact h.1
  have c2 : w.cell? ⟨b, 2, none⟩ = some (.int .i64 k) := by
    rcases h with ⟨-, v, h1, -, -⟩ | ⟨-, v, h1, -, -⟩ <;> (rw [Lib.cell_of_heap h1]; rfl)
  have HH := Lib.hid h
  have HK := Lib.hid hk
  have HL := Lib.hid hlen
  have HW := Lib.hid hBw
  have HBb := Lib.hid HB
  clear h hlen hBw HB
  have HEnd : Hid (∀ w2, IsW B b (k : Int) (bs ++ (if k = 0 then [32] else [44, 32]) ++ s.data.toList) w2 → Below B w w2 → OK b w w2 → IsW B b ((k + 1 : Nat) : Int) (bs ++ (if k = 0 then [32] else [44, 32]) ++ s.data.toList) (w2.setCell ⟨b, 2, none⟩ (.int .i64 ((k : Int) + 1))) ∧ Below B w (w2.setCell ⟨b, 2, none⟩ (.int .i64 ((k : Int) + 1))) ∧ OK b w (w2.setCell ⟨b, 2, none⟩ (.int .i64 ((k : Int) + 1)))) := Lib.hid (by
    intro w2 h2 hb2 hk2
    refine ⟨?_, hb2.setCell (p := ⟨b, 2, none⟩) HBb.out _, hk2.setCell ⟨b, 2, none⟩ rfl _⟩
    rcases h2 with ⟨hB, v, h1, h3, h4⟩ | ⟨hB, v, h1, h3, h4⟩
    · exact .inl (W3.set B b 2 _ hB h1 h3 (by simp))
    · exact .inr (W3.set B b 2 _ hB h1 h3 (by simp)))
  have HCell : Hid (∀ w2 bs2, IsW B b (k : Int) bs2 w2 → w2.cell? ⟨b, 2, none⟩ = some (.int .i64 k) ∧ w2.frozen? ⟨b, 2, none⟩ = false) := Lib.hid (by
    intro w2 bs2 h2
    rcases h2 with ⟨hB, v, h1, h3, h4⟩ | ⟨hB, v, h1, h3, h4⟩
    · exact ⟨by rw [Lib.cell_of_heap h1]; rfl, Lib.frozen_of_heap h1 2⟩
    · exact ⟨by rw [Lib.cell_of_heap h1]; rfl, Lib.frozen_of_heap h1 2⟩)
  by_cases h0 : k = 0
  · subst h0
    have hb0 : ((↑(0 : Nat) : Int) == 0) = true := rfl
    go_enter Tryd.func41, Tryd.ntmps41
    go_wp2_with fail
    refine (writeString_any B b _ bs ⟨#[32]⟩ _ HH.out (by have := HL.out; have : (⟨#[32]⟩ : ByteArray).size = 1 := rfl; omega) HW.out).mono ?_
    rintro e w1 ⟨rfl, h1, hb1, hk1⟩
    have H1 := Lib.hid h1
    have HB1 := Lib.hid hb1
    have HK1 := Lib.hid hk1
    clear h1 hb1 hk1
    go_wp2_with fail
    refine (writeString_any B b _ _ s _ H1.out (by have := HL.out; simp; omega) (by have := HB1.out.size; have := HW.out; omega)).mono ?_
    rintro e w2 ⟨rfl, h2, hb2, hk2⟩
    obtain ⟨d2, f2⟩ := HCell.out _ _ h2
    have H2 := Lib.hid (HEnd.out w2 (by simpa using h2) (HB1.out.trans hb2) (HK1.out.trans hk2))
    clear h2 hb2 hk2
    go_wp2
    go_end0
    exact ⟨rfl, by simpa using H2.out⟩
  · have hb0 : ((k : Int) == 0) = false := by rw [beq_eq_false_iff_ne]; omega
    have HN0 := Lib.hid h0
    clear h0
    go_enter Tryd.func41, Tryd.ntmps41
    go_wp2_with fail
    refine (writeString_any B b _ bs ⟨#[44, 32]⟩ _ HH.out (by have := HL.out; have : (⟨#[44, 32]⟩ : ByteArray).size = 2 := rfl; omega) HW.out).mono ?_
    rintro e w1 ⟨rfl, h1, hb1, hk1⟩
    have H1 := Lib.hid h1
    have HB1 := Lib.hid hb1
    have HK1 := Lib.hid hk1
    clear h1 hb1 hk1
    go_wp2_with fail
    refine (writeString_any B b _ _ s _ H1.out (by have := HL.out; simp; omega) (by have := HB1.out.size; have := HW.out; omega)).mono ?_
    rintro e w2 ⟨rfl, h2, hb2, hk2⟩
    obtain ⟨d2, f2⟩ := HCell.out _ _ h2
    have H2 := Lib.hid (HEnd.out w2 (by rw [if_neg HN0.out]; exact h2) (HB1.out.trans hb2) (HK1.out.trans hk2))
    clear h2 hb2 hk2
    go_wp2
    go_end0
    have HN := HN0.out
    exact ⟨rfl, by simpa [HN] using H2.out⟩
end Go.Proofs.YtkcgnmicaigjfaaDoor
