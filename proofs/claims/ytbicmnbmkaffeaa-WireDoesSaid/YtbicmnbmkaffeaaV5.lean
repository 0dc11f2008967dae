/- wire.writer.number, wire.Put, wire.PutText. -/
import Derived.Test.YtbicmnbmkaffeaaV4
namespace Go.Proofs.Ytbicmnbmkaffeaa
set_option linter.unusedVariables false
set_option linter.unusedSimpArgs false
open Go.RowKit Go.Shelf

theorem wr_kept {B b : Nat} {bs : List Value} {W W' : World} {row : Option Nat} (h : Wr B b bs W) (hg : W.grownBy W' row)
    (hr : ∀ r, row = some r → ∀ cs fz, W.heap[r]? ≠ some (.cells cs 77 fz) ∧ W.heap[r]? ≠ some (.cells cs 5 fz)) : Wr B b bs W' := by
  have key : ∀ p, WrAt B b p bs W → WrAt B b p bs W' := by
    rintro p ⟨hB, v, hb, hown, hne⟩
    refine ⟨hB, v, ?_, hown.kept hg ?_, hne⟩
    · refine (hg.block b (Array.getElem?_eq_some_iff.1 hb).1 ?_).trans hb
      intro e; exact (hr b e.symm _ _).1 hb
    · cases hv : v.ownBlock with
      | none => exact .inl rfl
      | some g =>
        right
        intro e
        obtain ⟨c, fz, hc⟩ := row_kind hown g hv
        exact (hr g e.symm _ _).2 hc
  exact h.elim (fun x => .inl (key _ x)) (fun x => .inr (key _ x))
theorem grown_set (w : World) (b : Nat) (x : Value) : w.grownBy (w.setCell ⟨b, 0, none⟩ x) (some b) :=
  ⟨rfl, rfl, rfl, by simp [World.setCell], fun k _ hk => Below.heap_setCell _ _ _ _ (fun e => hk (by simp [e]))⟩
theorem keeps_of {b B : Nat} {W W' : World} (h : Lib.OthersKept 5 (some b) W W') (hb : Below B W W') (hc : ∀ o, W.heap[b]? = some o → o.isCells = true) : KeepsOthers W W' :=
  ⟨hb.size, fun k o hk ho => h k o hk (fun e => by cases e; rw [hc o hk] at ho; cases ho) (fun c fz e => by rw [e] at ho; cases ho)⟩
theorem wr_cells {B b : Nat} {bs : List Value} {W : World} (h : Wr B b bs W) : ∃ cs fz, W.heap[b]? = some (.cells cs 77 fz) := by
  rcases h with ⟨_, v, h, _⟩ | ⟨_, v, h, _⟩
  · exact ⟨_, _, h⟩
  · exact ⟨_, _, h⟩

set_option maxHeartbeats 400000 in
theorem digits_any (v : Nat) (w : World) : Calls Try.prog 41 #[.int .u64 v] w fun e w' => e = .returned (.func (.func 44) #[] #[.pointer (some ⟨w.heap.size, 0, none⟩)]) ∧ w' = w.alloc (.cells #[.int .u64 v] 22) := by
  go_enter Try.func41, Try.ntmps41
  go_wp2
  go_ret
  exact ⟨rfl, rfl⟩

/-- What the rounds of number keep. -/
def NumI (B b bp Bv : Nat) (bs : List Value) (w : World) (pre : List UInt8) (W : World) : Prop :=
  (Wr B b (bs ++ Lib.byteCells pre) W ∧ W.heap[bp]? = some (.cells #[.pointer (some ⟨b, 0, none⟩)] 72 (0, 0)) ∧ ∃ x, W.heap[Bv]? = some (.cells #[x] 22 (0, 0))) ∧ Below B w W

attribute [local go_sem] Oper.semAt_some
set_option maxRecDepth 100000 in
set_option maxHeartbeats 1000000 in
theorem number_any (B b : Nat) (bs : List Value) (v : Nat) (hv : v < 18446744073709551616) (w : World) (h : Wr B b bs w) (hlen : bs.length + 10 ≤ 140737488355328) (hBw : B ≤ w.heap.size) :
    Calls Try.prog 37 #[.pointer (some ⟨b, 0, none⟩), .int .u64 v] w fun e w' => e = .returned (.tuple #[]) ∧ Wr B b (bs ++ Lib.byteCells (putL v)) w' ∧ Below B w w' := by
  have HN := Lib.hid (putL_len hv)
  have HV := Lib.hid hv
  clear hv
  obtain ⟨cb, fzb, hcb⟩ := wr_cells h
  have hbl : b < w.heap.size := (Array.getElem?_eq_some_iff.1 hcb).1
  clear hcb
  have H := Lib.hid h
  clear h
  refine (callsIn_wide (n := 4)).1 ?_
  refine callsIn_of_wp_marks Try.func37 rfl trivial ?_ rfl
  simp only [Try.ntmps37, List.size_toArray, List.length_cons, List.length_nil, Nat.reduceAdd, Nat.reduceSub, Array.replicate_succ, Array.replicate_zero, List.push_toArray, List.append_toArray, List.nil_append, List.cons_append]
  gi_wp2_with (refine ⟨trivial, ?_⟩; gi_at_call 41; refine (callsIn_wide.2 (digits_any v _)).mono ?_; rintro e w' ⟨rfl, rfl⟩)
  obtain ⟨W0, hW0⟩ : ∃ W0, (w.alloc (.cells #[.pointer (some ⟨b, 0, none⟩)] 72)).alloc (.cells #[.int .u64 v] 22) = W0 := ⟨_, rfl⟩
  have hz : W0.heap.size = w.heap.size + 2 := by rw [← hW0]; simp
  have h1 : W0.heap[w.heap.size]? = some (.cells #[.pointer (some ⟨b, 0, none⟩)] 72 (0, 0)) := by
    rw [← hW0, Lib.alloc_old _ _ _ (by simp)]; exact World.alloc_heap_new _ _
  have h2 : W0.heap[w.heap.size + 1]? = some (.cells #[.int .u64 v] 22 (0, 0)) := by
    rw [← hW0]; have := World.alloc_heap_new (w.alloc (.cells #[.pointer (some ⟨b, 0, none⟩)] 72)) (.cells #[.int .u64 v] 22); rwa [World.size_alloc] at this
  have h3 : Below B w W0 := by rw [← hW0]; exact ((Below.refl B w).alloc hBw _).alloc (by simp; omega) _
  have h4 : Wr B b (bs ++ Lib.byteCells []) W0 := by
    rw [← hW0]
    refine wr_kept (wr_kept (by simpa [Lib.byteCells] using H.out) (World.grownBy_alloc w _ none) (by intro r e; cases e)) (World.grownBy_alloc _ _ none) (by intro r e; cases e)
  rw [hW0]
  have hfr : NumI B b w.heap.size (w.heap.size + 1) bs w [] W0 := ⟨⟨h4, h1, _, h2⟩, h3⟩
  clear h1 h3 h4
  refine wpIn_rangeFunc_cell rfl (by omega) (gf := 44) (lb := #[.pointer (some ⟨w.heap.size + 1, 0, none⟩)]) rfl trivial (enters_of Try.func44 (by kernel_rfl) rfl)
    (encs := encB) (S := fun xs => xs = putL v) (N := (putL v).length) (w.heap.size + 1) (by omega)
    (fun l J W hW hJ hY h0 => digits1_in Fence.wide _ trivial rfl (by omega) l (w.heap.size + 1) v HV.out J hJ hY W (hW.trans h2) h0)
    (fun _ => rfl) (NumI B b w.heap.size (w.heap.size + 1) bs w) ?own ?setv hfr
    (fun x => { tmps := #[.pointer (some ⟨b, 0, none⟩), .int .u64 v, .pointer (some ⟨w.heap.size, 0, none⟩), undef, .int .u8 x.toNat, .int .u64 v, .func (.func 44) #[] #[.pointer (some ⟨w.heap.size + 1, 0, none⟩)], .int .u8 x.toNat, undef, undef, undef, undef, undef], defers := [] }) ?assign ?body ?done
  case own =>
    rintro s A C row ⟨⟨hw, hp, x, hx⟩, hb⟩ hg hr
    refine ⟨⟨wr_kept hw hg (fun r e cs fz => ?_), (grownBy_keeps_cells hg (fun r e => (hr r e).2) hp rfl).trans hp, x, (grownBy_keeps_cells hg (fun r e => (hr r e).2) hx rfl).trans hx⟩, hb.grown hg (Nat.le_trans hBw hb.size) (fun k e => by have := (hr k e).1; omega)⟩
    obtain ⟨_, o, ho, hc⟩ := hr r e
    constructor <;> (intro h; rw [h] at ho; cases ho; cases hc)
  case setv =>
    rintro pre W y ⟨⟨hw, hp, x, hx⟩, hb⟩
    refine ⟨⟨wr_kept hw (grown_set W _ y) (fun r e cs fz => ?_), (Below.heap_setCell W ⟨w.heap.size + 1, 0, none⟩ y w.heap.size (by simp)).trans hp, y, set_blk hx⟩, hb.setCell (p := ⟨w.heap.size + 1, 0, none⟩) (by simp; omega) y⟩
    cases e
    rw [hx]
    constructor <;> (intro h; simp at h)
  case assign =>
    intro l x W K hK
    unfold encB
    gi_wp2
    exact hK
  case body =>
    rintro l pre x W ⟨⟨hw, hp, x0, hx⟩, hb⟩ hlen1
    have hl2 : (bs ++ Lib.byteCells pre).length + 1 ≤ 140737488355328 := by
      have := HN.out.2.1
      rw [List.length_append, Lib.byteCells_length]; omega
    have hB2 : B ≤ W.heap.size := Nat.le_trans hBw hb.size
    have hc := (cell_blk hp).1
    have HCB : Hid (∀ o, W.heap[b]? = some o → o.isCells = true) := Lib.hid (by
      obtain ⟨cs, fz, hcs⟩ := wr_cells hw
      intro o ho; rw [hcs] at ho; cases ho; rfl)
    have HCALL := Lib.hid (CallsIn.inRound (n := 1) l (callsIn_wide.2 (writeByte_any B b _ x.toNat _ hw hl2 hB2)))
    have HP := Lib.hid hp
    have HX := Lib.hid hx
    clear hp hx hl2 hlen1 hw
    gi_wp2_with (refine ⟨trivial, ?_⟩; gi_at_call 42; refine HCALL.out.mono ?_; rintro e W3 ⟨rfl, h3, hb3, ho3⟩)
    refine ⟨keeps_of ho3 hb3 HCB.out, ?_, ⟨?_, ?_, ?_⟩, hb.trans hb3⟩
    · rw [HX.out]; exact ho3 _ _ HX.out (by simp; omega) (by intro c fz e; simp at e)
    · rw [Lib.byteCells_append, ← List.append_assoc]; exact .inr h3
    · exact ho3 _ _ HP.out (by simp; omega) (by intro c fz e; simp at e)
    · exact ⟨x0, ho3 _ _ HX.out (by simp; omega) (by intro c fz e; simp at e)⟩
  case done =>
    rintro D ys W hD rfl ⟨⟨hw, hp, x, hx⟩, hb⟩ hK
    gi_wp2
    refine ⟨by simp, .inl ⟨_, _, rfl, run_takeDeferred hK, ?_⟩⟩
    refine ⟨_, results_none rfl _ _ _, rfl, ?_, ?_⟩
    · refine wr_kept hw (grownBy_putObj' W D _) (fun r e cs fz => ?_)
      cases e
      rw [hK]
      constructor <;> (intro h; simp at h)
    · exact hb.grown (grownBy_putObj' W D _) (Nat.le_trans hBw hb.size) (fun k e => by cases e; omega)
end Go.Proofs.Ytbicmnbmkaffeaa
