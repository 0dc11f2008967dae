/- show: Text. -/
import Derived.Test.YtkcgnmicaigjfaaDoorwH
namespace Go.Proofs.YtkcgnmicaigjfaaDoor
set_option linter.unusedVariables false
set_option linter.unusedSimpArgs false
open Go.ChangeShapes Go.WideShapes Go.Deep Go.RowKit

abbrev stV (p : List UInt8 × Int) : Value := .tuple #[.string ⟨p.1.toArray⟩, .int .i64 p.2]
theorem fresh_w (w : World) : IsW w.heap.size w.heap.size ((0 : Nat) : Int) [] (w.alloc (.cells #[.pointer none, .slice none 0 0, .int .i64 0] 42)) :=
  .inl ⟨Nat.le_refl _, .slice none 0 0, (MapKept.heap_alloc w _).1, World.ownsRow_nil _ _ _ _, by simp [Value.ownBlock]⟩
theorem W3.base {B B' b : Nat} {p : Value} {k : Int} {bs : List UInt8} {w : World} (h : W3 B b p k bs w) (hB : B' ≤ B) : W3 B' b p k bs w := by
  obtain ⟨h0, v, h1, h2, h3⟩ := h
  refine ⟨Nat.le_trans hB h0, v, h1, ⟨h2.1, ?_⟩, h3⟩
  rcases h2.2 with ⟨hv, h0⟩ | ⟨g, cap, cur, hv, hBg, r⟩
  · exact .inl ⟨hv, h0⟩
  · exact .inr ⟨g, cap, cur, hv, Nat.le_trans hB hBg, r⟩
theorem IsW.base {B B' b : Nat} {k : Int} {bs : List UInt8} {w : World} (h : IsW B b k bs w) (hB : B' ≤ B) : IsW B' b k bs w := h.imp (·.base hB) (·.base hB)
theorem nm_len : ∀ k : Fin 40, (nmL.getD k.val []).length ≤ 4 := by decide +kernel
theorem opn_ne : ∀ k : Fin 40, 1 ≤ k.val → nmL.getD k.val [] ≠ [] := by decide +kernel
theorem headT_len {i : In} (h : isI i = true) : (headT i).length ≤ 8 := by
  have ho := op_of h
  have := nm_len ⟨i.op.toNat, by omega⟩
  have := coT_len i
  unfold headT
  simp only at *
  split <;> simp only [List.length_append, List.length_cons, List.length_nil] <;> omega
theorem showT_ne {i : In} (h : isI i = true) : showT i ≠ [] := by
  have ho := op_of h
  have := opn_ne ⟨i.op.toNat, by omega⟩ (by simp only; omega)
  unfold showT headT
  intro e
  simp only [List.append_eq_nil_iff] at e
  exact this e.1.1
/-- The state while the methods write. -/
theorem mstep_step (i : In) (r : List UInt8 × Nat) (K : Nat) (hi : InB i) : (mstep i r K).1.length ≤ r.1.length + 102 ∧ (mstep i r K).2 ≤ r.2 + 1 := by
  have := mthT_len hi K
  unfold mstep
  split
  · omega
  · simp only [List.length_append]
    split <;> (try simp only [List.length_cons, List.length_nil]) <;> omega
def runM (i : In) (H : List UInt8) (fs : List Nat) : List UInt8 × Nat := fs.foldl (mstep i) (H, 0)
theorem runM_next (i : In) (H : List UInt8) (fs : List Nat) (j : Nat) (h : j < fs.length) : runM i H (fs.take (j + 1)) = mstep i (runM i H (fs.take j)) fs[j] := by
  unfold runM
  rw [List.take_succ_eq_append_getElem h, List.foldl_append]; rfl
theorem runM_len (i : In) (hi : InB i) (H : List UInt8) (fs : List Nat) (j : Nat) (h : j ≤ fs.length) : (runM i H (fs.take j)).1.length ≤ H.length + 102 * j ∧ (runM i H (fs.take j)).2 ≤ j := by
  induction j with
  | zero => simp [runM]
  | succ j ih =>
    have := ih (by omega)
    rw [runM_next i H fs j (by omega)]
    have h2 := mstep_step i (runM i H (fs.take j)) fs[j] hi
    omega
set_option maxRecDepth 100000 in
set_option maxHeartbeats 3000000 in
theorem Text_no (i : In) (hi : InB i) (w : World) (hT : TabS w) (h : isI i = false) : Calls Tryd.prog 5 #[inV i] w (RetB (stV ([], 1)) w) := by
  have HI : Hid (∀ u, Below w.heap.size w u → Calls Tryd.prog 9 #[inV i] u (RetB (.bool false) u)) := Lib.hid fun u hu => by have := InstIs_any i u (hT.next hu).t4 hi; rwa [h] at this
  clear hT hi h
  obtain ⟨o, d, n, m, a, x, q, h, t, c⟩ := i
  have HB := Lib.hid (lit_b w (.cells (inC ⟨o, d, n, m, a, x, q, h, t, c⟩) 24))
  go_enter Tryd.func5, Tryd.ntmps5
  go_wp2_with fail
  refine (HI.out _ HB.out).mono ?_
  rintro e u ⟨rfl, hb⟩
  have HB2 := Lib.hid (after HB.out hb)
  clear hb
  go_wp2
  go_ret2
  exact ⟨rfl, HB2.out⟩
set_option maxRecDepth 100000 in
set_option maxHeartbeats 6000000 in
theorem Text_31 (i : In) (hi : InB i) (w : World) (hT : TabS w) (hI : isI i = true) (h31 : i.op = 31) : Calls Tryd.prog 5 #[inV i] w (RetB (stV (showT i, 0)) w) := by
  have hTB : TB w.heap.size w := ⟨w, hT, Nat.le_refl _, Below.refl _ _⟩
  have HIs : Hid (∀ u, Below w.heap.size w u → Calls Tryd.prog 9 #[inV i] u (RetB (.bool true) u)) := Lib.hid fun u hu => by have := InstIs_any i u (hT.next hu).t4 hi; rwa [hI] at this
  have hop := op_of hI
  obtain ⟨NM, hNM⟩ : ∃ NM, NM = nmL.getD i.op.toNat [] := ⟨_, rfl⟩
  have hsh : shapeI i.op ≠ 0 := by unfold isI at hI; simp only [Bool.and_eq_true, bne_iff_ne] at hI; exact hI.1.1.1
  have HNm : Hid (∀ u, Below w.heap.size w u → Calls Tryd.prog 10 #[.int .i64 i.op] u (Ret (.tuple #[.string ⟨NM.toArray⟩, .int .i64 0]) u)) := Lib.hid fun u hu => by
    have := Name_any i.op u (hT.next hu).five
    unfold nameI at this
    rw [if_neg hsh] at this
    rw [hNM]; exact this
  have hNl : NM.length ≤ 4 := by rw [hNM]; exact nm_len ⟨i.op.toNat, by omega⟩
  obtain ⟨S, hS⟩ : ∃ S, S = shapeI i.op := ⟨_, rfl⟩
  have hSb := shapeI_b i.op
  rw [← hS] at hSb
  have HShp : Hid (∀ u, Below w.heap.size w u → Calls Tryd.prog 14 #[.int .i64 i.op] u (Ret (.int .i64 S) u)) := Lib.hid fun u hu => by rw [hS]; exact Shape_any i.op u (hT.next hu).t4
  have HOp : Hid (∀ u, Calls Tryd.prog 13 #[.int .i64 S] u (FnP (mths S) u)) := Lib.hid fun u => operands_any S u hSb
  have HMm := Lib.hid (mths_mem hSb)
  obtain ⟨B, hB⟩ : ∃ B, B = w.heap.size := ⟨_, rfl⟩
  have HMeth : Hid (∀ K ∈ mAll, ∀ (b k : Nat) bs u, Below B w u → IsW B b (k : Int) bs u → k ≤ 50 → bs.length ≤ 1000 → Calls Tryd.prog K #[.pointer (some ⟨b, 0, none⟩), inV i] u (MQ B b (mstep i (bs, k) K) u)) := Lib.hid fun K hK b k bs u hu hw hk hl => mth_any hK i hi hI u (by rw [hB]; exact hTB.next (by rw [← hB]; exact hu)) hw hk hl (by rw [hB] at *; exact hu.size)
  have HEnd : Hid (runM i (headT i) (mths S) = (showT i, (runM i (headT i) (mths S)).2)) := Lib.hid (by rw [hS]; exact Prod.ext (run_pieces i (headT i)) rfl)
  have HLen : Hid (∀ j, j ≤ (mths S).length → (runM i (headT i) ((mths S).take j)).1.length ≤ 8 + 102 * j ∧ (runM i (headT i) ((mths S).take j)).2 ≤ j) := Lib.hid fun j hj => by
    have h1 := runM_len i hi (headT i) (mths S) j hj
    have h2 := headT_len hI
    omega
  have HNext : Hid (∀ j (h : j < (mths S).length), runM i (headT i) ((mths S).take (j + 1)) = mstep i (runM i (headT i) ((mths S).take j)) (mths S)[j]) := Lib.hid fun j h => runM_next i (headT i) (mths S) j h
  have HNe := Lib.hid (showT_ne hI)
  have HCo : Hid (∀ u, Below w.heap.size w u → Calls Tryd.prog 12 #[inV i] u (RetB (.string ⟨(coT i).toArray⟩) u)) := Lib.hid fun u hu => condText_any i hi u (hT.next hu)
  have hcl := coT_len i
  have HHd : Hid (headT i = NM ++ 46 :: coT i) := Lib.hid (by unfold headT; rw [if_pos h31, hNM])
  have q31 : (i.op == 31) = true := by rw [h31]; rfl
  have hcz : (⟨(coT i).toArray⟩ : ByteArray).size ≤ 2 := by rw [ba_size]; exact hcl
  have hrun0 : runM i (headT i) ((mths S).take 0) = (headT i, 0) := by simp [runM]
  have HR0 := Lib.hid hrun0
  obtain ⟨fs, hfs⟩ : ∃ fs, fs = mths S := ⟨_, rfl⟩
  obtain ⟨R, hR⟩ : ∃ R : Nat → List UInt8 × Nat, R = fun j => runM i (headT i) (fs.take j) := ⟨_, rfl⟩
  obtain ⟨MS, hMS⟩ : ∃ MS, MS = mstep i := ⟨_, rfl⟩
  have HRend : Hid ((R fs.length).1 = showT i) := Lib.hid (by rw [hR]; simp only [List.take_length]; rw [hfs, HEnd.out])
  have HRlen : Hid (∀ j, j ≤ fs.length → (R j).1.length ≤ 8 + 102 * j ∧ (R j).2 ≤ j) := Lib.hid (by rw [hR, hfs]; exact HLen.out)
  have HRnext : Hid (∀ j (h : j < fs.length), R (j + 1) = MS (R j) fs[j]) := Lib.hid (by subst hfs hMS hR; exact HNext.out)
  have HRz : Hid (R 0 = (headT i, 0)) := Lib.hid (by rw [hR, hfs]; exact HR0.out)
  rw [← hfs] at HOp HMm
  rw [← hMS] at HMeth
  generalize headT i = HD at *
  generalize showT i = ST at *
  clear HEnd HLen HNext HR0 hrun0 hR hMS hfs hT hi hTB hop hNM hsh hSb hS hI h31
  generalize coT i = CO at *
  obtain ⟨o, d, n, m, a, x, q, h, t, c⟩ := i
  try simp only [] at HIs
  try simp only [] at HNm
  try simp only [] at HShp
  try simp only [] at q31
  have HBw := Lib.hid hB
  obtain ⟨W0, hW0⟩ : ∃ W0, W0 = w.alloc (.cells (inC ⟨o, d, n, m, a, x, q, h, t, c⟩) 24) := ⟨_, rfl⟩
  have HW0 := Lib.hid hW0.symm
  have HL0 : Hid (Below w.heap.size w W0) := Lib.hid (by rw [hW0]; exact lit_b w _)
  have HX0 : Hid (W0.heap[B]? = some (.cells (inC ⟨o, d, n, m, a, x, q, h, t, c⟩) 24 (0, 0))) := Lib.hid (by rw [hW0, hB]; exact (MapKept.heap_alloc w _).1)
  clear hW0 hB
  go_enter Tryd.func5, Tryd.ntmps5
  go_wp2_with fail
  rw [HW0.out, ← HBw.out]
  refine (HIs.out _ HL0.out).mono ?_
  rintro e u1 ⟨rfl, hb⟩
  have HL1 := Lib.hid (after HL0.out hb)
  have HX1 := Lib.hid ((hb.block _ (w3_lt HX0.out)).trans HX0.out)
  clear hb
  have hx1 := ten_of HX1.out
  obtain ⟨W2, hW2⟩ : ∃ W2, W2 = u1.alloc (.cells #[.pointer none, .slice none 0 0, .int .i64 0] 42) := ⟨_, rfl⟩
  obtain ⟨b, hb⟩ : ∃ b, b = u1.heap.size := ⟨_, rfl⟩
  have HW2 := Lib.hid hW2.symm
  have Hb := Lib.hid hb.symm
  have HL2 : Hid (Below w.heap.size w W2) := Lib.hid (by rw [hW2]; exact after HL1.out (lit_b u1 _))
  have HIW : Hid (IsW B b ((0 : Nat) : Int) [] W2) := Lib.hid (by rw [hW2, hb]; exact (fresh_w u1).base (by rw [HBw.out]; exact HL1.out.size))
  have HX2 : Hid (W2.heap[B]? = some (.cells (inC ⟨o, d, n, m, a, x, q, h, t, c⟩) 24 (0, 0))) := Lib.hid (by rw [hW2]; exact ((lit_b u1 _).block _ (w3_lt HX1.out)).trans HX1.out)
  have HBb : Hid (B < b) := Lib.hid (by have := w3_lt HX1.out; omega)
  have HBs : Hid (Below B w W2) := Lib.hid (by rw [HBw.out]; exact HL2.out)
  have hx2 := ten_of HX2.out
  rw [hW2] at hx2
  obtain ⟨x0, x1, x2, x3, x4, x5, x6, x7, x8, x9⟩ := hx2
  clear hW2 hb hx1
  go_wp2_with fail
  rw [HW2.out, Hb.out]
  clear x0 x1 x2 x3 x4 x5 x6 x7 x8 x9
  refine (HNm.out _ HL2.out).mono ?_
  rintro e w' ⟨rfl, rfl⟩
  go_wp2_with fail
  refine (writeString_any B b _ [] ⟨NM.toArray⟩ _ HIW.out (by rw [ba_size]; simp only [List.length_nil]; omega) (by rw [HBw.out]; exact HL2.out.size)).mono ?_
  rintro e u3 ⟨rfl, hw, hbl, hk⟩
  have HW3 : Hid (IsW B b ((0 : Nat) : Int) NM u3) := Lib.hid (by simpa using hw)
  have HB3 := Lib.hid (HBs.out.trans hbl)
  have HX3 := Lib.hid (hk B _ HX2.out (by have := HBb.out; intro e; cases e; omega) (by intro c fz h; injection h with _ h2 _; exact absurd h2 (by decide)))
  clear hw hbl hk
  obtain ⟨x0, x1, x2, x3, x4, x5, x6, x7, x8, x9⟩ := ten_of HX3.out
  obtain ⟨V, hV⟩ : ∃ V, V = u3.drew := ⟨_, rfl⟩
  have HV := Lib.hid hV.symm
  have hd : Below u3.heap.size u3 V := by rw [hV]; exact (Below.refl _ _).drew
  have HW4 := Lib.hid (HW3.out.below hd)
  have HB4 := Lib.hid (HB3.out.trans (hd.mono (by have := HB3.out.size; have := HBw.out; omega)))
  have HX4 := Lib.hid ((hd.block _ (w3_lt HX3.out)).trans HX3.out)
  clear hV hd
  go_wp2_with fail
  refine wp_region_held_drew (S := fun v => v.cell? ⟨B, 0, none⟩ = some (.int .i64 o) ∧ v.cell? ⟨B, 1, none⟩ = some (.int .i64 d) ∧ v.cell? ⟨B, 2, none⟩ = some (.int .i64 n) ∧ v.cell? ⟨B, 3, none⟩ = some (.int .i64 m) ∧ v.cell? ⟨B, 4, none⟩ = some (.int .i64 a) ∧ v.cell? ⟨B, 5, none⟩ = some (.int .i64 x) ∧ v.cell? ⟨B, 6, none⟩ = some (.int .u64 q) ∧ v.cell? ⟨B, 7, none⟩ = some (.int .i64 h) ∧ v.cell? ⟨B, 8, none⟩ = some (.int .i64 t) ∧ v.cell? ⟨B, 9, none⟩ = some (.int .i64 c)) (by kernel_rfl) (by rw [HV.out]; exact ten_of HX4.out) (fun hHeld => ?_)
  rw [HV.out]
  have hHeld0 : V.cell? ⟨B, 0, none⟩ = some (.int .i64 o) ∧ V.cell? ⟨B, 1, none⟩ = some (.int .i64 d) ∧ V.cell? ⟨B, 2, none⟩ = some (.int .i64 n) ∧ V.cell? ⟨B, 3, none⟩ = some (.int .i64 m) ∧ V.cell? ⟨B, 4, none⟩ = some (.int .i64 a) ∧ V.cell? ⟨B, 5, none⟩ = some (.int .i64 x) ∧ V.cell? ⟨B, 6, none⟩ = some (.int .u64 q) ∧ V.cell? ⟨B, 7, none⟩ = some (.int .i64 h) ∧ V.cell? ⟨B, 8, none⟩ = some (.int .i64 t) ∧ V.cell? ⟨B, 9, none⟩ = some (.int .i64 c) := ten_of HX4.out
  clear hHeld x0 x1 x2 x3 x4 x5 x6 x7 x8 x9
  refine tk 0 ?_ rfl hHeld0 ?_ ?_
  rotate_left 1
  · intro w hS; obtain ⟨_, _, _, _, _, _, _, _, _, _⟩ := hS; go_simp; (try with_reducible rfl)
  (try simp only [Act.put, List.setIfInBounds_toArray, List.set_cons_zero, List.set_cons_succ])
  refine tk 1 ?_ rfl hHeld0 ?_ ?_
  rotate_left 1
  · intro w hS; obtain ⟨_, _, _, _, _, _, _, _, _, _⟩ := hS; go_simp; (try with_reducible rfl)
  (try simp only [Act.put, List.setIfInBounds_toArray, List.set_cons_zero, List.set_cons_succ])
  refine tk 2 ?_ rfl hHeld0 ?_ ?_
  rotate_left 1
  · intro w hS; obtain ⟨_, _, _, _, _, _, _, _, _, _⟩ := hS; go_simp; (try with_reducible rfl)
  (try simp only [Act.put, List.setIfInBounds_toArray, List.set_cons_zero, List.set_cons_succ])
  refine tk 3 ?_ rfl hHeld0 ?_ ?_
  rotate_left 1
  · intro w hS; obtain ⟨_, _, _, _, _, _, _, _, _, _⟩ := hS; go_simp; (try with_reducible rfl)
  (try simp only [Act.put, List.setIfInBounds_toArray, List.set_cons_zero, List.set_cons_succ])
  refine rd 4 rfl (fun K hK => ?_)
  go_simp
  go_wp2_with (go_at_call 12; refine (HCo.out V (by rw [← HBw.out]; exact HB4.out)).mono ?_; rintro e u5 ⟨rfl, hbl⟩)
  have HW5 := Lib.hid (HW4.out.below hbl)
  have HB5 := Lib.hid (HB4.out.trans (hbl.mono (by have := HB4.out.size; have := HBw.out; omega)))
  have HX5 := Lib.hid ((hbl.block _ (w3_lt HX4.out)).trans HX4.out)
  clear hbl
  refine hK.out _ _ (ten_of HX5.out) (fun hHeld1 => ?_)
  clear hK K
  refine tk 5 (.string (⟨#[46]⟩ ++ (⟨CO.toArray⟩ : ByteArray))) rfl hHeld1 ?_ ?_
  · intro w hS; go_simp; (try with_reducible rfl); (try omega)
  (try simp only [Act.put, List.setIfInBounds_toArray, List.set_cons_zero, List.set_cons_succ])
  refine rd 6 rfl (fun K hK => ?_)
  go_simp
  go_wp2_with (go_at_call 11; refine (writeString_any B b _ NM _ _ HW5.out (by rw [ByteArray.size_append, show (⟨#[46]⟩ : ByteArray).size = 1 from rfl]; omega) (by have := HB5.out.size; have := HBw.out; omega)).mono ?_; rintro e u6 ⟨rfl, hw, hbl, hk⟩)
  have HW6 : Hid (IsW B b ((0 : Nat) : Int) HD u6) := Lib.hid (by rw [HHd.out]; have := hw; rwa [cat_list] at this)
  have HB6 := Lib.hid (HB5.out.trans hbl)
  have HX6 := Lib.hid (hk B _ HX5.out (by have := HBb.out; intro e; cases e; omega) (by intro c fz h; injection h with _ h2 _; exact absurd h2 (by decide)))
  clear hw hbl hk
  refine hK.out _ _ (ten_of HX6.out) (fun hHeld2 => ?_)
  clear hK K
  refine wpAnyH_done (by kernel_rfl) ?_ _
  clear hHeld0 hHeld1 hHeld2 HX3 HB3 HW3
  have HX3 := HX6
  have HB3 := HB6
  have HW3 := HW6
  clear HX6 HB6 HW6
  generalize u6 = u3 at *
  obtain ⟨x0, x1, x2, x3, x4, x5, x6, x7, x8, x9⟩ := ten_of HX3.out
  go_wp2_with fail
  refine (HShp.out _ (by rw [← HBw.out]; exact HB3.out)).mono ?_
  rintro e w' ⟨rfl, rfl⟩
  go_wp2_with fail
  refine (HOp.out _).mono ?_
  rintro e u7 ⟨fa, rfl, hfa, hbl⟩
  have HFa := Lib.hid hfa
  have HW7 := Lib.hid (HW3.out.below hbl)
  have HB7 := Lib.hid (HB3.out.trans (hbl.mono (by have := HB3.out.size; have := HBw.out; omega)))
  have HX7 := Lib.hid ((hbl.block _ (w3_lt HX3.out)).trans HX3.out)
  have HbU : Hid (b < u3.heap.size) := Lib.hid (is_lt HW3.out)
  clear hfa hbl x0 x1 x2 x3 x4 x5 x6 x7 x8 x9
  have hn4 : fs.length ≤ 4 := HMm.out.2
  obtain ⟨N, hN⟩ : ∃ N, N = fs.length := ⟨_, rfl⟩
  have HN := Lib.hid hN
  rw [← hN] at hn4
  rw [← hN]
  clear hN
  go_wp2_with fail
  go_loopw [40] (fun j wr => ∃ (k : Nat) (wx : World), wx = wr ∧ k ≤ N ∧ j = .int .i64 k ∧ Hid (IsW B b ((R k).2 : Int) (R k).1 wx) ∧ Hid (Below B w wx) ∧ Hid (OK b u7 wx)) (fun j _ => N - (intOf j).toNat)
  case atStart => exact ⟨0, _, rfl, by omega, rfl, Lib.hid (by rw [HRz.out]; exact HW7.out), HB7, Lib.hid (Lib.OthersKept.refl _ _ _)⟩
  case round =>
    obtain ⟨k, wx, rfl, hk, rfl, HWx, HBx, HKx⟩ := hrel
    by_cases hlt : k < N
    · have hlti : (k : Int) < (N : Int) := by omega
      have hkf : k < fs.length := by rw [← HN.out]; exact hlt
      have hne : fs ≠ [] := by intro e; rw [e] at hkf; simp at hkf
      obtain ⟨fb, rfl, hfb, hfl⟩ := HFa.out hne
      obtain ⟨K, hK⟩ : ∃ K, K = fs[k] := ⟨_, rfl⟩
      have HKm : Hid (K ∈ mAll) := Lib.hid (HMm.out.1 K (by rw [hK]; exact List.getElem_mem hkf))
      have hfx := HKx.out fb _ hfb (by have := HbU.out; intro e; cases e; omega) (by intro c fz h; injection h with _ h2 _; exact absurd h2 (by decide))
      have cf : wx.cell? ⟨fb, k, none⟩ = some (fnv K) := by rw [Lib.cell_of_heap hfx, hK]; simp [hkf]
      have HXx := Lib.hid (HKx.out B _ HX7.out (by have := HBb.out; intro e; cases e; omega) (by intro c fz h; injection h with _ h2 _; exact absurd h2 (by decide)))
      obtain ⟨x0, x1, x2, x3, x4, x5, x6, x7, x8, x9⟩ := ten_of HXx.out
      have hcall := mth_call HKm.out
      have hL := HRlen.out k (by omega)
      have HM := Lib.hid (HMeth.out K HKm.out b (R k).2 (R k).1 wx HBx.out HWx.out (by omega) (by omega))
      have HRn := Lib.hid (HRnext.out k hkf)
      rw [← hK] at HRn
      have HLt := Lib.hid hlt
      clear hfb hfl hK hfx hL hkf hne hlt hk
      go_wp2_with fail
      refine HM.out.mono ?_
      rintro e v ⟨rfl, hw, hbl, hkk⟩
      rw [show (((R k).1, (R k).2) : List UInt8 × Nat) = R k from rfl, ← HRn.out] at hw
      have HWv := Lib.hid hw
      have HBv := Lib.hid (HBx.out.trans hbl)
      have HKv := Lib.hid (HKx.out.trans hkk)
      clear hw hbl hkk cf x0 x1 x2 x3 x4 x5 x6 x7 x8 x9 HM
      go_wp2
      go_roundw
      case rel => exact ⟨k + 1, _, rfl, by have := HLt.out; omega, by go_num, HWv, HBv, HKv⟩
      case measure => have := HLt.out; simp [intOf]; omega
    · have hge : ¬ (k : Int) < (N : Int) := by omega
      obtain rfl : k = N := by omega
      have HWs : Hid (IsW B b ((R k).2 : Int) ST wx) := Lib.hid (by have := HWx.out; rw [← HRend.out, ← HN.out]; exact this)
      clear hk hlt HWx
      go_wp2_with fail
      refine (string_some B b _ ST wx HWs.out HNe.out).mono ?_
      rintro e v ⟨rfl, hbl⟩
      have HBv := Lib.hid (HBx.out.trans hbl)
      clear hbl
      go_wp2
      go_ret2
      exact ⟨rfl, by rw [← HBw.out]; exact HBv.out⟩
set_option maxRecDepth 100000 in
set_option maxHeartbeats 6000000 in
theorem Text_n (i : In) (hi : InB i) (w : World) (hT : TabS w) (hI : isI i = true) (h31 : i.op ≠ 31) : Calls Tryd.prog 5 #[inV i] w (RetB (stV (showT i, 0)) w) := by
  have hTB : TB w.heap.size w := ⟨w, hT, Nat.le_refl _, Below.refl _ _⟩
  have HIs : Hid (∀ u, Below w.heap.size w u → Calls Tryd.prog 9 #[inV i] u (RetB (.bool true) u)) := Lib.hid fun u hu => by have := InstIs_any i u (hT.next hu).t4 hi; rwa [hI] at this
  have hop := op_of hI
  obtain ⟨NM, hNM⟩ : ∃ NM, NM = nmL.getD i.op.toNat [] := ⟨_, rfl⟩
  have hsh : shapeI i.op ≠ 0 := by unfold isI at hI; simp only [Bool.and_eq_true, bne_iff_ne] at hI; exact hI.1.1.1
  have HNm : Hid (∀ u, Below w.heap.size w u → Calls Tryd.prog 10 #[.int .i64 i.op] u (Ret (.tuple #[.string ⟨NM.toArray⟩, .int .i64 0]) u)) := Lib.hid fun u hu => by
    have := Name_any i.op u (hT.next hu).five
    unfold nameI at this
    rw [if_neg hsh] at this
    rw [hNM]; exact this
  have hNl : NM.length ≤ 4 := by rw [hNM]; exact nm_len ⟨i.op.toNat, by omega⟩
  obtain ⟨S, hS⟩ : ∃ S, S = shapeI i.op := ⟨_, rfl⟩
  have hSb := shapeI_b i.op
  rw [← hS] at hSb
  have HShp : Hid (∀ u, Below w.heap.size w u → Calls Tryd.prog 14 #[.int .i64 i.op] u (Ret (.int .i64 S) u)) := Lib.hid fun u hu => by rw [hS]; exact Shape_any i.op u (hT.next hu).t4
  have HOp : Hid (∀ u, Calls Tryd.prog 13 #[.int .i64 S] u (FnP (mths S) u)) := Lib.hid fun u => operands_any S u hSb
  have HMm := Lib.hid (mths_mem hSb)
  obtain ⟨B, hB⟩ : ∃ B, B = w.heap.size := ⟨_, rfl⟩
  have HMeth : Hid (∀ K ∈ mAll, ∀ (b k : Nat) bs u, Below B w u → IsW B b (k : Int) bs u → k ≤ 50 → bs.length ≤ 1000 → Calls Tryd.prog K #[.pointer (some ⟨b, 0, none⟩), inV i] u (MQ B b (mstep i (bs, k) K) u)) := Lib.hid fun K hK b k bs u hu hw hk hl => mth_any hK i hi hI u (by rw [hB]; exact hTB.next (by rw [← hB]; exact hu)) hw hk hl (by rw [hB] at *; exact hu.size)
  have HEnd : Hid (runM i (headT i) (mths S) = (showT i, (runM i (headT i) (mths S)).2)) := Lib.hid (by rw [hS]; exact Prod.ext (run_pieces i (headT i)) rfl)
  have HLen : Hid (∀ j, j ≤ (mths S).length → (runM i (headT i) ((mths S).take j)).1.length ≤ 8 + 102 * j ∧ (runM i (headT i) ((mths S).take j)).2 ≤ j) := Lib.hid fun j hj => by
    have h1 := runM_len i hi (headT i) (mths S) j hj
    have h2 := headT_len hI
    omega
  have HNext : Hid (∀ j (h : j < (mths S).length), runM i (headT i) ((mths S).take (j + 1)) = mstep i (runM i (headT i) ((mths S).take j)) (mths S)[j]) := Lib.hid fun j h => runM_next i (headT i) (mths S) j h
  have HNe := Lib.hid (showT_ne hI)
  have HHd : Hid (headT i = NM) := Lib.hid (by unfold headT; rw [if_neg h31, hNM, List.append_nil])
  have q31 : (i.op == 31) = false := by rw [beq_eq_false_iff_ne]; exact h31
  have hrun0 : runM i (headT i) ((mths S).take 0) = (headT i, 0) := by simp [runM]
  have HR0 := Lib.hid hrun0
  obtain ⟨fs, hfs⟩ : ∃ fs, fs = mths S := ⟨_, rfl⟩
  obtain ⟨R, hR⟩ : ∃ R : Nat → List UInt8 × Nat, R = fun j => runM i (headT i) (fs.take j) := ⟨_, rfl⟩
  obtain ⟨MS, hMS⟩ : ∃ MS, MS = mstep i := ⟨_, rfl⟩
  have HRend : Hid ((R fs.length).1 = showT i) := Lib.hid (by rw [hR]; simp only [List.take_length]; rw [hfs, HEnd.out])
  have HRlen : Hid (∀ j, j ≤ fs.length → (R j).1.length ≤ 8 + 102 * j ∧ (R j).2 ≤ j) := Lib.hid (by rw [hR, hfs]; exact HLen.out)
  have HRnext : Hid (∀ j (h : j < fs.length), R (j + 1) = MS (R j) fs[j]) := Lib.hid (by subst hfs hMS hR; exact HNext.out)
  have HRz : Hid (R 0 = (headT i, 0)) := Lib.hid (by rw [hR, hfs]; exact HR0.out)
  rw [← hfs] at HOp HMm
  rw [← hMS] at HMeth
  generalize headT i = HD at *
  generalize showT i = ST at *
  clear HEnd HLen HNext HR0 hrun0 hR hMS hfs hT hi hTB hop hNM hsh hSb hS hI h31
  skip
  obtain ⟨o, d, n, m, a, x, q, h, t, c⟩ := i
  try simp only [] at HIs
  try simp only [] at HNm
  try simp only [] at HShp
  try simp only [] at q31
  have HBw := Lib.hid hB
  obtain ⟨W0, hW0⟩ : ∃ W0, W0 = w.alloc (.cells (inC ⟨o, d, n, m, a, x, q, h, t, c⟩) 24) := ⟨_, rfl⟩
  have HW0 := Lib.hid hW0.symm
  have HL0 : Hid (Below w.heap.size w W0) := Lib.hid (by rw [hW0]; exact lit_b w _)
  have HX0 : Hid (W0.heap[B]? = some (.cells (inC ⟨o, d, n, m, a, x, q, h, t, c⟩) 24 (0, 0))) := Lib.hid (by rw [hW0, hB]; exact (MapKept.heap_alloc w _).1)
  clear hW0 hB
  go_enter Tryd.func5, Tryd.ntmps5
  go_wp2_with fail
  rw [HW0.out, ← HBw.out]
  refine (HIs.out _ HL0.out).mono ?_
  rintro e u1 ⟨rfl, hb⟩
  have HL1 := Lib.hid (after HL0.out hb)
  have HX1 := Lib.hid ((hb.block _ (w3_lt HX0.out)).trans HX0.out)
  clear hb
  have hx1 := ten_of HX1.out
  obtain ⟨W2, hW2⟩ : ∃ W2, W2 = u1.alloc (.cells #[.pointer none, .slice none 0 0, .int .i64 0] 42) := ⟨_, rfl⟩
  obtain ⟨b, hb⟩ : ∃ b, b = u1.heap.size := ⟨_, rfl⟩
  have HW2 := Lib.hid hW2.symm
  have Hb := Lib.hid hb.symm
  have HL2 : Hid (Below w.heap.size w W2) := Lib.hid (by rw [hW2]; exact after HL1.out (lit_b u1 _))
  have HIW : Hid (IsW B b ((0 : Nat) : Int) [] W2) := Lib.hid (by rw [hW2, hb]; exact (fresh_w u1).base (by rw [HBw.out]; exact HL1.out.size))
  have HX2 : Hid (W2.heap[B]? = some (.cells (inC ⟨o, d, n, m, a, x, q, h, t, c⟩) 24 (0, 0))) := Lib.hid (by rw [hW2]; exact ((lit_b u1 _).block _ (w3_lt HX1.out)).trans HX1.out)
  have HBb : Hid (B < b) := Lib.hid (by have := w3_lt HX1.out; omega)
  have HBs : Hid (Below B w W2) := Lib.hid (by rw [HBw.out]; exact HL2.out)
  have hx2 := ten_of HX2.out
  rw [hW2] at hx2
  obtain ⟨x0, x1, x2, x3, x4, x5, x6, x7, x8, x9⟩ := hx2
  clear hW2 hb hx1
  go_wp2_with fail
  rw [HW2.out, Hb.out]
  clear x0 x1 x2 x3 x4 x5 x6 x7 x8 x9
  refine (HNm.out _ HL2.out).mono ?_
  rintro e w' ⟨rfl, rfl⟩
  go_wp2_with fail
  refine (writeString_any B b _ [] ⟨NM.toArray⟩ _ HIW.out (by rw [ba_size]; simp only [List.length_nil]; omega) (by rw [HBw.out]; exact HL2.out.size)).mono ?_
  rintro e u3 ⟨rfl, hw, hbl, hk⟩
  have HW3 : Hid (IsW B b ((0 : Nat) : Int) NM u3) := Lib.hid (by simpa using hw)
  have HB3 := Lib.hid (HBs.out.trans hbl)
  have HX3 := Lib.hid (hk B _ HX2.out (by have := HBb.out; intro e; cases e; omega) (by intro c fz h; injection h with _ h2 _; exact absurd h2 (by decide)))
  clear hw hbl hk
  obtain ⟨x0, x1, x2, x3, x4, x5, x6, x7, x8, x9⟩ := ten_of HX3.out
  rw [← HHd.out] at HW3
  go_wp2_with fail
  refine (HShp.out _ (by rw [← HBw.out]; exact HB3.out)).mono ?_
  rintro e w' ⟨rfl, rfl⟩
  go_wp2_with fail
  refine (HOp.out _).mono ?_
  rintro e u7 ⟨fa, rfl, hfa, hbl⟩
  have HFa := Lib.hid hfa
  have HW7 := Lib.hid (HW3.out.below hbl)
  have HB7 := Lib.hid (HB3.out.trans (hbl.mono (by have := HB3.out.size; have := HBw.out; omega)))
  have HX7 := Lib.hid ((hbl.block _ (w3_lt HX3.out)).trans HX3.out)
  have HbU : Hid (b < u3.heap.size) := Lib.hid (is_lt HW3.out)
  clear hfa hbl x0 x1 x2 x3 x4 x5 x6 x7 x8 x9
  have hn4 : fs.length ≤ 4 := HMm.out.2
  obtain ⟨N, hN⟩ : ∃ N, N = fs.length := ⟨_, rfl⟩
  have HN := Lib.hid hN
  rw [← hN] at hn4
  rw [← hN]
  clear hN
  go_wp2_with fail
  go_loopw [40] (fun j wr => ∃ (k : Nat) (wx : World), wx = wr ∧ k ≤ N ∧ j = .int .i64 k ∧ Hid (IsW B b ((R k).2 : Int) (R k).1 wx) ∧ Hid (Below B w wx) ∧ Hid (OK b u7 wx)) (fun j _ => N - (intOf j).toNat)
  case atStart => exact ⟨0, _, rfl, by omega, rfl, Lib.hid (by rw [HRz.out]; exact HW7.out), HB7, Lib.hid (Lib.OthersKept.refl _ _ _)⟩
  case round =>
    obtain ⟨k, wx, rfl, hk, rfl, HWx, HBx, HKx⟩ := hrel
    by_cases hlt : k < N
    · have hlti : (k : Int) < (N : Int) := by omega
      have hkf : k < fs.length := by rw [← HN.out]; exact hlt
      have hne : fs ≠ [] := by intro e; rw [e] at hkf; simp at hkf
      obtain ⟨fb, rfl, hfb, hfl⟩ := HFa.out hne
      obtain ⟨K, hK⟩ : ∃ K, K = fs[k] := ⟨_, rfl⟩
      have HKm : Hid (K ∈ mAll) := Lib.hid (HMm.out.1 K (by rw [hK]; exact List.getElem_mem hkf))
      have hfx := HKx.out fb _ hfb (by have := HbU.out; intro e; cases e; omega) (by intro c fz h; injection h with _ h2 _; exact absurd h2 (by decide))
      have cf : wx.cell? ⟨fb, k, none⟩ = some (fnv K) := by rw [Lib.cell_of_heap hfx, hK]; simp [hkf]
      have HXx := Lib.hid (HKx.out B _ HX7.out (by have := HBb.out; intro e; cases e; omega) (by intro c fz h; injection h with _ h2 _; exact absurd h2 (by decide)))
      obtain ⟨x0, x1, x2, x3, x4, x5, x6, x7, x8, x9⟩ := ten_of HXx.out
      have hcall := mth_call HKm.out
      have hL := HRlen.out k (by omega)
      have HM := Lib.hid (HMeth.out K HKm.out b (R k).2 (R k).1 wx HBx.out HWx.out (by omega) (by omega))
      have HRn := Lib.hid (HRnext.out k hkf)
      rw [← hK] at HRn
      have HLt := Lib.hid hlt
      clear hfb hfl hK hfx hL hkf hne hlt hk
      go_wp2_with fail
      refine HM.out.mono ?_
      rintro e v ⟨rfl, hw, hbl, hkk⟩
      rw [show (((R k).1, (R k).2) : List UInt8 × Nat) = R k from rfl, ← HRn.out] at hw
      have HWv := Lib.hid hw
      have HBv := Lib.hid (HBx.out.trans hbl)
      have HKv := Lib.hid (HKx.out.trans hkk)
      clear hw hbl hkk cf x0 x1 x2 x3 x4 x5 x6 x7 x8 x9 HM
      go_wp2
      go_roundw
      case rel => exact ⟨k + 1, _, rfl, by have := HLt.out; omega, by go_num, HWv, HBv, HKv⟩
      case measure => have := HLt.out; simp [intOf]; omega
    · have hge : ¬ (k : Int) < (N : Int) := by omega
      obtain rfl : k = N := by omega
      have HWs : Hid (IsW B b ((R k).2 : Int) ST wx) := Lib.hid (by have := HWx.out; rw [← HRend.out, ← HN.out]; exact this)
      clear hk hlt HWx
      go_wp2_with fail
      refine (string_some B b _ ST wx HWs.out HNe.out).mono ?_
      rintro e v ⟨rfl, hbl⟩
      have HBv := Lib.hid (HBx.out.trans hbl)
      clear hbl
      go_wp2
      go_ret2
      exact ⟨rfl, by rw [← HBw.out]; exact HBv.out⟩
theorem SText_any (i : In) (hi : InB i) (w : World) (hT : TabS w) : Calls Tryd.prog 5 #[inV i] w (RetB (stV (showS i)) w) := by
  unfold showS
  cases h : isI i
  · exact Text_no i hi w hT h
  · by_cases h31 : i.op = 31
    · exact Text_31 i hi w hT h h31
    · exact Text_n i hi w hT h h31
end Go.Proofs.YtkcgnmicaigjfaaDoor
