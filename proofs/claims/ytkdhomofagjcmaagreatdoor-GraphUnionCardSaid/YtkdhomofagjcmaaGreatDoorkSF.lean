/- obj: the builder's frame; Put's number, keepNumber. -/
import Derived.Test.YtkdhomofagjcmaaGreatDoorkSS
import Derived.Test.YtkdhomofagjcmaaGreatDoorkVV
namespace Go.Proofs.YtkdhomofagjcmaaGreatDoor
set_option linter.unusedVariables false
set_option linter.unusedSimpArgs false
open Go.ChangeShapes Go.WideShapes Go.Deep Go.RowKit
open Go.Proofs.YtkdhomofagjcmaaGreatDoor.Wi (putL putL_len putB putB_size putB_list Put_at textB PutText_any PutInt_any zig zig_lt)

set_option maxRecDepth 100000 in
set_option maxHeartbeats 2000000 in
theorem writeString_kept (B b : Nat) (bs : List Value) (s : ByteArray) (w : World) (h : Wr B b bs w) (hlen : bs.length + s.size ≤ 140737488355328) (hBw : B ≤ w.heap.size) :
    Calls Tryz.prog 54 #[.pointer (some ⟨b, 0, none⟩), .string s] w fun e w' => e = .returned (.tuple #[.int .i64 s.size, .nilIface]) ∧ (WrAt B b (.pointer (some ⟨b, 0, none⟩)) (bs ++ Lib.strCells s) w' ∧ Below B w w' ∧ Lib.OthersKept 5 (some b) w w') := by
  obtain ⟨i0, hi, hz0, hz1, hz2⟩ := info_parts infoU
  go_enter Tryz.func54, Tryz.ntmps54
  go_wp2_with fail
  refine (copyCheck_any B b bs _ h).mono ?_
  rintro e w1 ⟨rfl, h1, hb1, hk1⟩
  obtain ⟨hB, v, hbk, hown, hne⟩ := h1
  have c0 : w1.cell? ⟨b, 0, none⟩ = some (.pointer (some ⟨b, 0, none⟩)) := by rw [Lib.cell_of_heap hbk]; rfl
  have c1 : w1.cell? ⟨b, 1, none⟩ = some v := by rw [Lib.cell_of_heap hbk]; rfl
  go_wp2_with (at_builtin; refine Lib.wpList_append_own_string _ rfl _ _ 89 9 rfl B 5 i0 Tryz.underlying89 Tryz.underlying9 hi hz0 hz1 hz2 _ _ _ rfl hown s rfl ?c3 ?c4 ?c5 ?_)
  case c3 => unfold maxLen; omega
  case c4 => omega
  case c5 => have := hb1.size; omega
  intro v' w2 hown' hgrow _
  have hlt : b < w1.heap.size := (Array.getElem?_eq_some_iff.1 hbk).1
  have hb2 : w2.heap[b]? = some (.cells #[.pointer (some ⟨b, 0, none⟩), v] 91 (0, 0)) := by
    rw [hgrow.block b hlt (fun e => hne e.symm)]
    exact hbk
  have d0 : w2.cell? ⟨b, 0, none⟩ = some (.pointer (some ⟨b, 0, none⟩)) := by rw [Lib.cell_of_heap hb2]; rfl
  have d1 : w2.cell? ⟨b, 1, none⟩ = some v := by rw [Lib.cell_of_heap hb2]; rfl
  have f1 : w2.frozen? ⟨b, 1, none⟩ = false := Lib.frozen_of_heap hb2 1
  obtain ⟨ao, n', cap, rfl⟩ : ∃ ao n' cap, v' = .slice ao n' cap := by
    rcases hown'.2 with ⟨hv, _⟩ | ⟨g, cap, cur, hv, _⟩
    · exact ⟨_, _, _, hv⟩
    · exact ⟨_, _, _, hv⟩
  go_wp2
  go_ret2
  refine ⟨rfl, ?_, ?_, (hk1.grown hgrow (row_kind hown)).setCell ⟨b, 1, none⟩ rfl _⟩
  · exact Lib.BuilderAt.put hB hb2 (bs' := bs ++ Lib.strCells s) (by simpa [Lib.strCells_length] using hown') (by decide)
  · exact (hb1.grown hgrow (by have := hb1.size; omega) (fun k hk => (hown.lt k hk).1)).setCell (p := ⟨b, 1, none⟩) hB _


/-- The builder in block b holds these bytes. -/
def St (b : Nat) (l : List UInt8) (w : World) : Prop := Wr b b (Lib.byteCells l) w
/-- What a step that writes through the builder in block b leaves as it was. -/
structure KU (b : Nat) (w w' : World) : Prop where
  below : Below b w w'
  kept : Lib.OthersKept 5 (some b) w w'
theorem KU.refl (b : Nat) (w : World) : KU b w w := ⟨Below.refl _ _, Lib.OthersKept.refl _ _ _⟩
theorem KU.trans {b : Nat} {w u v : World} (h : KU b w u) (k : KU b u v) : KU b w v := ⟨h.below.trans k.below, h.kept.trans k.kept⟩
theorem KU.of {b : Nat} {w w' : World} (h : Below w.heap.size w w') (hb : b ≤ w.heap.size) : KU b w w' :=
  ⟨h.mono hb, fun k o hk _ _ => (h.block k (lt_of_block hk)).trans hk⟩
theorem RB.ku {b X : Nat} {w w' : World} {cs : Array Value} {T : TypeId} (h : RB w X cs T) (hk : KU b w w') (hT : T ≠ 5) (hX : X ≠ b) : RB w' X cs T :=
  hk.kept X _ h (by simp; exact hX) (fun c fz e => hT (by cases e; rfl))
theorem St.next {b : Nat} {l : List UInt8} {w w' : World} (h : St b l w) (hb : Below w.heap.size w w') : St b l w' := by
  have key : ∀ p, WrAt b b p (Lib.byteCells l) w → WrAt b b p (Lib.byteCells l) w' := by
    rintro p ⟨hB, v, hk, hown, hne⟩
    refine ⟨hB, v, (hb.block b (lt_of_block hk)).trans hk, hown.kept (KP.of_below (p := w.heap.size) hb) ?_, hne⟩
    cases hv : v.ownBlock with
    | none => exact .inl rfl
    | some g =>
      right
      obtain ⟨c, fz, hc⟩ := row_kind hown g hv
      have := lt_of_block hc
      simp only [ne_eq, Option.some.injEq]; omega
  rcases h with h | h
  · exact .inl (key _ h)
  · exact .inr (key _ h)
theorem ws_any (b : Nat) (l : List UInt8) (s : ByteArray) (w : World) (h : St b l w) (hl : l.length + s.size ≤ 1000000000) (hb : b ≤ w.heap.size) :
    Calls Tryz.prog 54 #[.pointer (some ⟨b, 0, none⟩), .string s] w fun e w' => e = .returned (.tuple #[.int .i64 s.size, .nilIface]) ∧ St b (l ++ s.data.toList) w' ∧ KU b w w' :=
  (writeString_kept b b _ s w h (by rw [Lib.byteCells_length]; omega) hb).mono fun e w' ⟨h1, h2, h3, h4⟩ => ⟨h1, .inr (by rw [Lib.byteCells_append]; exact h2), ⟨h3, h4⟩⟩
set_option maxRecDepth 100000 in
set_option maxHeartbeats 1000000 in
theorem num_any (b : Nat) (l : List UInt8) (v : Nat) (hv : v < 9223372036854775808) (w : World) (h : St b l w) (hl : l.length ≤ 900000000) (hb : b ≤ w.heap.size) :
    Calls Tryz.prog 53 #[.int .i64 (v : Int), .pointer (some ⟨b, 0, none⟩)] w fun e w' => e = .returned (.tuple #[]) ∧ St b (l ++ putL v) w' ∧ KU b w w' := by
  have HP := Lib.hid (fun w => Put_at (v : Int) v rfl (by omega) w)
  have hlen : (putL v).length ≤ 10 := (putL_len (v := v) (by omega)).2.1
  have HW : Hid (∀ w, St b l w → b ≤ w.heap.size → Calls Tryz.prog 54 #[.pointer (some ⟨b, 0, none⟩), .string (putB v)] w fun e w' => e = .returned (.tuple #[.int .i64 (putB v).size, .nilIface]) ∧ St b (l ++ putL v) w' ∧ KU b w w') := Lib.hid (fun w h hb => by
    have := ws_any b l (putB v) w h (by rw [putB_size]; omega) hb
    rwa [putB_list] at this)
  have H := Lib.hid h
  have HBl := Lib.hid hb
  have hwr : IntKind.u64.wrap (v : Int) = (v : Int) := by rw [IntKind.wrap_u64]; omega
  generalize putB v = D at HP HW
  clear h hb hlen
  go_enter Tryz.func53, Tryz.ntmps53
  go_wp2_with fail
  refine (HP.out _).mono ?_
  rintro e u ⟨rfl, hb⟩
  have HB := Lib.hid hb
  clear hb
  go_wp2_with fail
  refine (HW.out _ (H.out.next HB.out) (Nat.le_trans HBl.out HB.out.size)).mono ?_
  rintro e u2 ⟨rfl, hst, hku⟩
  have HS := Lib.hid hst
  have HK := Lib.hid ((KU.of HB.out HBl.out).trans hku)
  clear hst hku
  go_wp2
  exact ⟨rfl, _, results_none rfl _ _ _, rfl, HS.out, HK.out⟩
theorem keep_any (k : Bool) (w : World) : Calls Tryz.prog 57 #[.bool k] w (Ret (.int .i64 (if k then 1 else 0)) w) := by
  cases k
  · go_enter Tryz.func57, Tryz.ntmps57
    go_wp2
    go_ret
    exact ⟨rfl, rfl⟩
  · go_enter Tryz.func57, Tryz.ntmps57
    go_wp2
    go_ret
    exact ⟨rfl, rfl⟩
end Go.Proofs.YtkdhomofagjcmaaGreatDoor
