/- show: the writer's methods memory and shift. -/
import Derived.Test.YtkcgnmicaigjfaaDoorwF
namespace Go.Proofs.YtkcgnmicaigjfaaDoor
set_option linter.unusedVariables false
set_option linter.unusedSimpArgs false
open Go.ChangeShapes Go.WideShapes Go.Deep Go.RowKit

theorem mem_cat (i : In) : (⟨(91 :: (bT i ++ 44 :: 32 :: (intT i.imm ++ [93]))).toArray⟩ : ByteArray) = (⟨#[91]⟩ ++ (⟨(bT i).toArray⟩ : ByteArray) ++ ⟨#[44, 32]⟩ ++ (⟨(intT i.imm).toArray⟩ : ByteArray)) ++ ⟨#[93]⟩ := by
  apply ba_ext
  rw [cat_list, cat_list, cat_list, cat_list]
  simp
theorem is_lt {B b : Nat} {k : Int} {bs : List UInt8} {w : World} (h : IsW B b k bs w) : b < w.heap.size := by rcases h with ⟨-, v, h1, -⟩ | ⟨-, v, h1, -⟩ <;> exact w3_lt h1
theorem ten_of {w : World} {X : Nat} {i : In} {T : TypeId} {fr : Nat × Nat} (h : w.heap[X]? = some (.cells (inC i) T fr)) : Ten X i w := by
  unfold Ten
  simp [World.cell?, h]
theorem ba_size (l : List UInt8) : (⟨l.toArray⟩ : ByteArray).size = l.length := by simp [ByteArray.size]
abbrev meT (i : In) : List UInt8 := 91 :: (bT i ++ 44 :: 32 :: (intT i.imm ++ [93]))
set_option maxRecDepth 100000 in
set_option maxHeartbeats 3000000 in
theorem wmem_any (i : In) (hi : InB i) {B b k : Nat} {bs : List UInt8} (u : World) (hT : TB B u) (hW : IsW B b (k : Int) bs u) (hk : k ≤ 50) (hl : bs.length ≤ 1000) (hB : B ≤ u.heap.size) : Calls Tryd.prog 30 #[.pointer (some ⟨b, 0, none⟩), inV i] u (MP B b k bs (meT i) u) := by
  have HP : Hid (∀ v, Below B u v → IsW B b (k : Int) bs v → Calls Tryd.prog 41 #[.pointer (some ⟨b, 0, none⟩), .string ⟨(meT i).toArray⟩] v (MP B b k bs (meT i) v)) := Lib.hid fun v hv hw => sput_any (meT i) hw hk hl (by have := rT_len i.n (nSt i); have := intT_len hi.imm; unfold meT bT; simp only [List.length_cons, List.length_append, List.length_nil]; omega) (sz_le hv hB)
  have HBu := Lib.hid hB
  have HWu := Lib.hid hW
  have HC : Hid (∀ v, Below B u v → Calls Tryd.prog 44 #[inV i] v (RetB (.string ⟨(bT i).toArray⟩) v)) := Lib.hid fun v hv => baseText_any i hi v (hT.next hv).tab
  have HI : Hid (∀ v, Below B u v → Calls Tryd.prog 43 #[.int .i64 i.imm] v (RetB (.string ⟨(intT i.imm).toArray⟩) v)) := Lib.hid fun v hv => intText_any i.imm hi.imm v (hT.next hv).tab
  have hz1 : (⟨(bT i).toArray⟩ : ByteArray).size ≤ 3 := by rw [ba_size]; exact rT_len i.n (nSt i)
  have hz2 : (⟨(intT i.imm).toArray⟩ : ByteArray).size ≤ 22 := by rw [ba_size]; exact intT_len hi.imm
  have HE := Lib.hid (mem_cat i)
  have HP2 : Hid (∀ v, Below B u v → IsW B b (k : Int) bs v → Calls Tryd.prog 41 #[.pointer (some ⟨b, 0, none⟩), .string ((⟨#[91]⟩ ++ (⟨(bT i).toArray⟩ : ByteArray) ++ ⟨#[44, 32]⟩ ++ (⟨(intT i.imm).toArray⟩ : ByteArray)) ++ ⟨#[93]⟩)] v (MP B b k bs (meT i) v)) := Lib.hid (by rw [← mem_cat]; exact HP.out)
  clear hT hi hW hk hl hB HP HE
  generalize meT i = TT at *
  generalize (⟨(bT i).toArray⟩ : ByteArray) = T1 at *
  generalize (⟨(intT i.imm).toArray⟩ : ByteArray) = T2 at *
  obtain ⟨o, d, n, m, a, x, q, h, t, c⟩ := i
  try simp only [] at HC HI
  obtain ⟨W, hW⟩ : ∃ W, W = u.alloc (.cells (inC ⟨o, d, n, m, a, x, q, h, t, c⟩) 24) := ⟨_, rfl⟩
  obtain ⟨X, hX⟩ : ∃ X, X = u.heap.size := ⟨_, rfl⟩
  have hTen : Ten X ⟨o, d, n, m, a, x, q, h, t, c⟩ W := by rw [hW, hX]; exact Ten.made _ _ _
  have HXl : Hid (X < W.heap.size) := Lib.hid (by rw [hW, hX]; simp)
  have HL0 : Hid (Below u.heap.size u W) := Lib.hid (by rw [hW]; exact lit_b u _)
  have HW := Lib.hid hW.symm
  have HX := Lib.hid hX.symm
  have HXb : Hid (B ≤ X) := Lib.hid (by rw [hX]; exact HBu.out)
  obtain ⟨V, hV⟩ : ∃ V, V = W.drew := ⟨_, rfl⟩
  have HV := Lib.hid hV.symm
  have hb1 : Below W.heap.size W V := by rw [hV]; exact (Below.refl _ _).drew
  have HTen : Hid (Ten X ⟨o, d, n, m, a, x, q, h, t, c⟩ V) := Lib.hid (hTen.below hb1 HXl.out)
  have HL1 := Lib.hid (after HL0.out hb1)
  have HW1 := Lib.hid (HWu.out.below HL1.out)
  have HB1 := Lib.hid (below_le HL1.out HBu.out)
  have HOb : Hid (V.heap[X]? = some (.cells (inC ⟨o, d, n, m, a, x, q, h, t, c⟩) 24 (0, 0))) := Lib.hid ((hb1.block X HXl.out).trans (by rw [hW, hX]; exact (MapKept.heap_alloc u _).1))
  have HXn : Hid (some X ≠ some b) := Lib.hid (by have := is_lt HWu.out; rw [hX]; intro e; cases e; omega)
  have HKV : Hid (OK b u V) := Lib.hid (OK.of_below HL1.out)
  have HXV : Hid (X < V.heap.size) := Lib.hid (Nat.lt_of_lt_of_le HXl.out hb1.size)
  clear hW hX hTen hV hb1
  go_enter Tryd.func30, Tryd.ntmps30
  go_wp2_with fail
  rw [HW.out, HX.out]
  refine wp_region_held_drew (S := fun v => v.cell? ⟨X, 0, none⟩ = some (.int .i64 o) ∧ v.cell? ⟨X, 1, none⟩ = some (.int .i64 d) ∧ v.cell? ⟨X, 2, none⟩ = some (.int .i64 n) ∧ v.cell? ⟨X, 3, none⟩ = some (.int .i64 m) ∧ v.cell? ⟨X, 4, none⟩ = some (.int .i64 a) ∧ v.cell? ⟨X, 5, none⟩ = some (.int .i64 x) ∧ v.cell? ⟨X, 6, none⟩ = some (.int .u64 q) ∧ v.cell? ⟨X, 7, none⟩ = some (.int .i64 h) ∧ v.cell? ⟨X, 8, none⟩ = some (.int .i64 t) ∧ v.cell? ⟨X, 9, none⟩ = some (.int .i64 c)) (by kernel_rfl) (by rw [HV.out]; exact HTen.out) (fun hHeld => ?_)
  rw [HV.out]
  have hHeld0 : V.cell? ⟨X, 0, none⟩ = some (.int .i64 o) ∧ V.cell? ⟨X, 1, none⟩ = some (.int .i64 d) ∧ V.cell? ⟨X, 2, none⟩ = some (.int .i64 n) ∧ V.cell? ⟨X, 3, none⟩ = some (.int .i64 m) ∧ V.cell? ⟨X, 4, none⟩ = some (.int .i64 a) ∧ V.cell? ⟨X, 5, none⟩ = some (.int .i64 x) ∧ V.cell? ⟨X, 6, none⟩ = some (.int .u64 q) ∧ V.cell? ⟨X, 7, none⟩ = some (.int .i64 h) ∧ V.cell? ⟨X, 8, none⟩ = some (.int .i64 t) ∧ V.cell? ⟨X, 9, none⟩ = some (.int .i64 c) := HTen.out
  clear hHeld
  refine tk 0 ?_ rfl hHeld0 ?_ ?_
  rotate_left 1
  · intro w hS; obtain ⟨_, _, _, _, _, _, _, _, _, _⟩ := hS; go_simp; (try with_reducible rfl)
  (try simp only [Act.put, List.setIfInBounds_toArray, List.set_cons_zero, List.set_cons_succ])
  refine tk 1 ?_ rfl hHeld0 ?_ ?_
  rotate_left 1
  · intro w hS; obtain ⟨_, _, _, _, _, _, _, _, _, _⟩ := hS; go_simp; (try with_reducible rfl)
  (try simp only [Act.put, List.setIfInBounds_toArray, List.set_cons_zero, List.set_cons_succ])
  refine tk 5 ?_ rfl hHeld0 ?_ ?_
  rotate_left 1
  · intro w hS; obtain ⟨_, _, _, _, _, _, _, _, _, _⟩ := hS; go_simp; (try with_reducible rfl)
  (try simp only [Act.put, List.setIfInBounds_toArray, List.set_cons_zero, List.set_cons_succ])
  refine tk 6 ?_ rfl hHeld0 ?_ ?_
  rotate_left 1
  · intro w hS; obtain ⟨_, _, _, _, _, _, _, _, _, _⟩ := hS; go_simp; (try with_reducible rfl)
  (try simp only [Act.put, List.setIfInBounds_toArray, List.set_cons_zero, List.set_cons_succ])
  refine rd 2 rfl (fun K hK => ?_)
  go_simp
  go_wp2_with (go_at_call 44; refine (HC.out V HB1.out).mono ?_; rintro e u1 ⟨rfl, hb⟩)
  have HT2 := Lib.hid (HTen.out.below hb HXV.out)
  have HW2 := Lib.hid (HW1.out.below hb)
  have HB2 := Lib.hid (HB1.out.trans (hb.mono (sz_le HB1.out HBu.out)))
  have HK2 := Lib.hid (OK.of_below (b := b) hb)
  clear hb
  refine hK.out _ _ (HT2.out) (fun hHeld1 => ?_)
  clear hK K
  refine tk 3 (.string (⟨#[91]⟩ ++ T1)) rfl HT2.out ?_ ?_
  · intro w hS; go_simp; (try with_reducible rfl); (try omega)
  (try simp only [Act.put, List.setIfInBounds_toArray, List.set_cons_zero, List.set_cons_succ])
  refine tk 4 (.string (⟨#[91]⟩ ++ T1 ++ ⟨#[44, 32]⟩)) rfl HT2.out ?_ ?_
  · intro w hS; go_simp; (try with_reducible rfl); (try omega)
  (try simp only [Act.put, List.setIfInBounds_toArray, List.set_cons_zero, List.set_cons_succ])
  refine rd 7 rfl (fun K hK => ?_)
  go_simp
  go_wp2_with (go_at_call 43; refine (HI.out u1 HB2.out).mono ?_; rintro e u2 ⟨rfl, hb⟩)
  have HT3 := Lib.hid (HT2.out.below hb (cell_lt hHeld1.1))
  have HW3 := Lib.hid (HW2.out.below hb)
  have HB3 := Lib.hid (HB2.out.trans (hb.mono (sz_le HB2.out HBu.out)))
  have HK3 := Lib.hid (HK2.out.trans (OK.of_below (b := b) hb))
  clear hb
  refine hK.out _ _ (HT3.out) (fun hHeld2 => ?_)
  clear hK K
  refine tk 8 (.string (⟨#[91]⟩ ++ T1 ++ ⟨#[44, 32]⟩ ++ T2)) rfl HT3.out ?_ ?_
  · intro w hS; go_simp; (try with_reducible rfl); (try omega)
  (try simp only [Act.put, List.setIfInBounds_toArray, List.set_cons_zero, List.set_cons_succ])
  refine tk 9 (.string (⟨#[91]⟩ ++ T1 ++ ⟨#[44, 32]⟩ ++ T2 ++ ⟨#[93]⟩)) rfl HT3.out ?_ ?_
  · intro w hS; go_simp; (try with_reducible rfl); (try omega)
  (try simp only [Act.put, List.setIfInBounds_toArray, List.set_cons_zero, List.set_cons_succ])
  refine rd 10 rfl (fun K hK => ?_)
  go_simp
  go_wp2_with (go_at_call 41; refine (HP2.out u2 HB3.out HW3.out).mono ?_; rintro e u3 ⟨rfl, hw, hb, hk⟩)
  have HW4 := Lib.hid hw
  have HB4 := Lib.hid (HB3.out.trans hb)
  have HK4 := Lib.hid (HK3.out.trans hk)
  have HT4 : Hid (Ten X ⟨o, d, n, m, a, x, q, h, t, c⟩ u3) := Lib.hid (ten_of (HK4.out X _ HOb.out (HXn.out) (by intro c fz h; injection h with _ h2 _; exact absurd h2 (by decide))))
  clear hw hb hk
  refine hK.out _ _ (HT4.out) (fun hHeld3 => ?_)
  clear hK K
  refine wpAnyH_done (by kernel_rfl) ?_ _
  clear hHeld0 hHeld1 hHeld2 hHeld3
  go_wp2
  go_end0
  exact ⟨rfl, HW4.out, HB4.out, HKV.out.trans HK4.out⟩
set_option maxRecDepth 100000 in
set_option maxHeartbeats 3000000 in
theorem wshift_no (i : In) (h0 : i.shift = 0) (h1 : i.amount = 0) (b : Nat) (u : World) : Calls Tryd.prog 25 #[.pointer (some ⟨b, 0, none⟩), inV i] u fun e w' => e = .returned (.tuple #[]) ∧ Below u.heap.size u w' := by
  obtain ⟨o, d, n, m, a, x, q, h, t, c⟩ := i
  simp only [] at h0 h1
  subst h0 h1
  have HB := Lib.hid (lit_b u (.cells (inC ⟨o, d, n, m, a, x, q, 0, 0, c⟩) 24))
  go_enter Tryd.func25, Tryd.ntmps25
  go_wp2
  go_end0
  exact ⟨rfl, HB.out⟩
theorem sh_cat (i : In) : (⟨(shNm i.shift ++ 32 :: intT i.amount).toArray⟩ : ByteArray) = (⟨(shNm i.shift).toArray⟩ : ByteArray) ++ ⟨#[32]⟩ ++ (⟨(intT i.amount).toArray⟩ : ByteArray) := by
  apply ba_ext
  rw [cat_list, cat_list]
  simp
set_option maxRecDepth 100000 in
set_option maxHeartbeats 3000000 in
theorem wshift_s (i : In) (hi : InB i) {B b k : Nat} {bs : List UInt8} (u : World) (hT : TB B u) (hW : IsW B b (k : Int) bs u) (hk : k ≤ 50) (hl : bs.length ≤ 1000) (hB : B ≤ u.heap.size) (hs : 0 ≤ i.shift ∧ i.shift ≤ 3) (h0 : i.shift ≠ 0) : Calls Tryd.prog 25 #[.pointer (some ⟨b, 0, none⟩), inV i] u (MP B b k bs (shNm i.shift ++ 32 :: intT i.amount) u) := by
  have HP : Hid (∀ v, Below B u v → IsW B b (k : Int) bs v → Calls Tryd.prog 41 #[.pointer (some ⟨b, 0, none⟩), .string ⟨(shNm i.shift ++ 32 :: intT i.amount).toArray⟩] v (MP B b k bs (shNm i.shift ++ 32 :: intT i.amount) v)) := Lib.hid fun v hv hw => sput_any (shNm i.shift ++ 32 :: intT i.amount) hw hk hl (by have := shNm_len i.shift; have := intT_len hi.amount; simp only [List.length_cons, List.length_append]; omega) (sz_le hv hB)
  have HBu := Lib.hid hB
  have HWu := Lib.hid hW
  have HI : Hid (∀ v, Below B u v → Calls Tryd.prog 43 #[.int .i64 i.amount] v (RetB (.string ⟨(intT i.amount).toArray⟩) v)) := Lib.hid fun v hv => intText_any i.amount hi.amount v (hT.next hv).tab
  have hz1 : (⟨(shNm i.shift).toArray⟩ : ByteArray).size = 3 := by rw [ba_size]; exact shNm_len _
  have hz2 : (⟨(intT i.amount).toArray⟩ : ByteArray).size ≤ 22 := by rw [ba_size]; exact intT_len hi.amount
  have HP2 : Hid (∀ v, Below B u v → IsW B b (k : Int) bs v → Calls Tryd.prog 41 #[.pointer (some ⟨b, 0, none⟩), .string ((⟨(shNm i.shift).toArray⟩ : ByteArray) ++ ⟨#[32]⟩ ++ (⟨(intT i.amount).toArray⟩ : ByteArray))] v (MP B b k bs (shNm i.shift ++ 32 :: intT i.amount) v)) := Lib.hid (by rw [← sh_cat]; exact HP.out)
  obtain ⟨j, hj⟩ := Int.eq_ofNat_of_zero_le hs.1
  have hj4 : j < 4 := by omega
  have HG : Hid (∀ v, Below B u v → v.cell? ⟨3, j, none⟩ = some (.string ⟨(shNm i.shift).toArray⟩)) := Lib.hid fun v hv => by rw [hj]; exact (hT.next hv).tab.sh.1 j hj4
  have q1 : (i.shift != 0) = true := by rw [bne_iff_ne]; exact h0
  clear h0
  clear hT hi hW hk hl hB HP hs
  generalize (shNm i.shift ++ 32 :: intT i.amount) = TT at *
  generalize (⟨(shNm i.shift).toArray⟩ : ByteArray) = T1 at *
  generalize (⟨(intT i.amount).toArray⟩ : ByteArray) = T2 at *
  obtain ⟨o, d, n, m, a, x, q, h, t, c⟩ := i
  simp only [] at hj
  subst hj
  try simp only [] at HI
  try simp only [] at q1
  try simp only [] at q2
  obtain ⟨W, hW⟩ : ∃ W, W = u.alloc (.cells (inC ⟨o, d, n, m, a, x, q, (j : Int), t, c⟩) 24) := ⟨_, rfl⟩
  obtain ⟨X, hX⟩ : ∃ X, X = u.heap.size := ⟨_, rfl⟩
  have hTen : Ten X ⟨o, d, n, m, a, x, q, (j : Int), t, c⟩ W := by rw [hW, hX]; exact Ten.made _ _ _
  have HXl : Hid (X < W.heap.size) := Lib.hid (by rw [hW, hX]; simp)
  have HL0 : Hid (Below u.heap.size u W) := Lib.hid (by rw [hW]; exact lit_b u _)
  have HW := Lib.hid hW.symm
  have HX := Lib.hid hX.symm
  have HXb : Hid (B ≤ X) := Lib.hid (by rw [hX]; exact HBu.out)
  obtain ⟨V, hV⟩ : ∃ V, V = W.drew := ⟨_, rfl⟩
  have HV := Lib.hid hV.symm
  have hb1 : Below W.heap.size W V := by rw [hV]; exact (Below.refl _ _).drew
  have HTen : Hid (Ten X ⟨o, d, n, m, a, x, q, (j : Int), t, c⟩ V) := Lib.hid (hTen.below hb1 HXl.out)
  have HL1 := Lib.hid (after HL0.out hb1)
  have HW1 := Lib.hid (HWu.out.below HL1.out)
  have HB1 := Lib.hid (below_le HL1.out HBu.out)
  have HOb : Hid (V.heap[X]? = some (.cells (inC ⟨o, d, n, m, a, x, q, (j : Int), t, c⟩) 24 (0, 0))) := Lib.hid ((hb1.block X HXl.out).trans (by rw [hW, hX]; exact (MapKept.heap_alloc u _).1))
  have HXn : Hid (some X ≠ some b) := Lib.hid (by have := is_lt HWu.out; rw [hX]; intro e; cases e; omega)
  have HKV : Hid (OK b u V) := Lib.hid (OK.of_below HL1.out)
  have HXV : Hid (X < V.heap.size) := Lib.hid (Nat.lt_of_lt_of_le HXl.out hb1.size)
  obtain ⟨x0, x1, x2, x3, x4, x5, x6, x7, x8, x9⟩ := hTen
  clear hW hX hV hb1
  go_enter Tryd.func25, Tryd.ntmps25
  go_wp2_with fail
  rw [HW.out, HX.out]
  go_wp2_with fail
  refine wp_region_held_drew (S := fun v => v.cell? ⟨X, 0, none⟩ = some (.int .i64 o) ∧ v.cell? ⟨X, 1, none⟩ = some (.int .i64 d) ∧ v.cell? ⟨X, 2, none⟩ = some (.int .i64 n) ∧ v.cell? ⟨X, 3, none⟩ = some (.int .i64 m) ∧ v.cell? ⟨X, 4, none⟩ = some (.int .i64 a) ∧ v.cell? ⟨X, 5, none⟩ = some (.int .i64 x) ∧ v.cell? ⟨X, 6, none⟩ = some (.int .u64 q) ∧ v.cell? ⟨X, 7, none⟩ = some (.int .i64 (j : Int)) ∧ v.cell? ⟨X, 8, none⟩ = some (.int .i64 t) ∧ v.cell? ⟨X, 9, none⟩ = some (.int .i64 c) ∧ v.cell? ⟨3, j, none⟩ = some (.string T1)) (by kernel_rfl) (by rw [HV.out]; exact ⟨HTen.out.1, HTen.out.2.1, HTen.out.2.2.1, HTen.out.2.2.2.1, HTen.out.2.2.2.2.1, HTen.out.2.2.2.2.2.1, HTen.out.2.2.2.2.2.2.1, HTen.out.2.2.2.2.2.2.2.1, HTen.out.2.2.2.2.2.2.2.2.1, HTen.out.2.2.2.2.2.2.2.2.2, HG.out _ HB1.out⟩) (fun hHeld => ?_)
  rw [HV.out]
  have hHeld0 : V.cell? ⟨X, 0, none⟩ = some (.int .i64 o) ∧ V.cell? ⟨X, 1, none⟩ = some (.int .i64 d) ∧ V.cell? ⟨X, 2, none⟩ = some (.int .i64 n) ∧ V.cell? ⟨X, 3, none⟩ = some (.int .i64 m) ∧ V.cell? ⟨X, 4, none⟩ = some (.int .i64 a) ∧ V.cell? ⟨X, 5, none⟩ = some (.int .i64 x) ∧ V.cell? ⟨X, 6, none⟩ = some (.int .u64 q) ∧ V.cell? ⟨X, 7, none⟩ = some (.int .i64 (j : Int)) ∧ V.cell? ⟨X, 8, none⟩ = some (.int .i64 t) ∧ V.cell? ⟨X, 9, none⟩ = some (.int .i64 c) ∧ V.cell? ⟨3, j, none⟩ = some (.string T1) := ⟨HTen.out.1, HTen.out.2.1, HTen.out.2.2.1, HTen.out.2.2.2.1, HTen.out.2.2.2.2.1, HTen.out.2.2.2.2.2.1, HTen.out.2.2.2.2.2.2.1, HTen.out.2.2.2.2.2.2.2.1, HTen.out.2.2.2.2.2.2.2.2.1, HTen.out.2.2.2.2.2.2.2.2.2, HG.out _ HB1.out⟩
  clear hHeld x0 x1 x2 x3 x4 x5 x6 x7 x8 x9
  refine tk 0 ?_ rfl hHeld0 ?_ ?_
  rotate_left 1
  · intro w hS; obtain ⟨_, _, _, _, _, _, _, _, _, _, _⟩ := hS; go_simp; (try with_reducible rfl)
  (try simp only [Act.put, List.setIfInBounds_toArray, List.set_cons_zero, List.set_cons_succ])
  refine tk 1 ?_ rfl hHeld0 ?_ ?_
  rotate_left 1
  · intro w hS; obtain ⟨_, _, _, _, _, _, _, _, _, _, _⟩ := hS; go_simp; (try with_reducible rfl)
  (try simp only [Act.put, List.setIfInBounds_toArray, List.set_cons_zero, List.set_cons_succ])
  refine tk 2 ?_ rfl hHeld0 ?_ ?_
  rotate_left 1
  · intro w hS; obtain ⟨_, _, _, _, _, _, _, _, _, _, _⟩ := hS; go_simp; (try with_reducible rfl)
  (try simp only [Act.put, List.setIfInBounds_toArray, List.set_cons_zero, List.set_cons_succ])
  refine tk 3 (.pointer (some ⟨3, j, none⟩)) rfl hHeld0 ?_ ?_
  · intro w hS; go_simp; intro hge; exact absurd hge (by omega)
  (try simp only [Act.put, List.setIfInBounds_toArray, List.set_cons_zero, List.set_cons_succ])
  refine tk 4 ?_ rfl hHeld0 ?_ ?_
  rotate_left 1
  · intro w hS; obtain ⟨_, _, _, _, _, _, _, _, _, _, _⟩ := hS; go_simp; (try with_reducible rfl)
  (try simp only [Act.put, List.setIfInBounds_toArray, List.set_cons_zero, List.set_cons_succ])
  refine tk 5 (.string (T1 ++ ⟨#[32]⟩)) rfl hHeld0 ?_ ?_
  · intro w hS; go_simp; (try with_reducible rfl); (try omega)
  (try simp only [Act.put, List.setIfInBounds_toArray, List.set_cons_zero, List.set_cons_succ])
  refine tk 6 ?_ rfl hHeld0 ?_ ?_
  rotate_left 1
  · intro w hS; obtain ⟨_, _, _, _, _, _, _, _, _, _, _⟩ := hS; go_simp; (try with_reducible rfl)
  (try simp only [Act.put, List.setIfInBounds_toArray, List.set_cons_zero, List.set_cons_succ])
  refine tk 7 ?_ rfl hHeld0 ?_ ?_
  rotate_left 1
  · intro w hS; obtain ⟨_, _, _, _, _, _, _, _, _, _, _⟩ := hS; go_simp; (try with_reducible rfl)
  (try simp only [Act.put, List.setIfInBounds_toArray, List.set_cons_zero, List.set_cons_succ])
  refine rd 8 rfl (fun K hK => ?_)
  go_simp
  go_wp2_with (go_at_call 43; refine (HI.out V HB1.out).mono ?_; rintro e u2 ⟨rfl, hb⟩)
  have HT3 := Lib.hid (HTen.out.below hb HXV.out)
  have HW3 := Lib.hid (HW1.out.below hb)
  have HB3 := Lib.hid (HB1.out.trans (hb.mono (sz_le HB1.out HBu.out)))
  have HK3 := Lib.hid (OK.of_below (b := b) hb)
  clear hb
  refine hK.out _ _ (⟨HT3.out.1, HT3.out.2.1, HT3.out.2.2.1, HT3.out.2.2.2.1, HT3.out.2.2.2.2.1, HT3.out.2.2.2.2.2.1, HT3.out.2.2.2.2.2.2.1, HT3.out.2.2.2.2.2.2.2.1, HT3.out.2.2.2.2.2.2.2.2.1, HT3.out.2.2.2.2.2.2.2.2.2, HG.out _ HB3.out⟩) (fun hHeld2 => ?_)
  clear hK K
  refine tk 9 (.string (T1 ++ ⟨#[32]⟩ ++ T2)) rfl hHeld2 ?_ ?_
  · intro w hS; go_simp; (try with_reducible rfl); (try omega)
  (try simp only [Act.put, List.setIfInBounds_toArray, List.set_cons_zero, List.set_cons_succ])
  refine rd 10 rfl (fun K hK => ?_)
  go_simp
  go_wp2_with (go_at_call 41; refine (HP2.out u2 HB3.out HW3.out).mono ?_; rintro e u3 ⟨rfl, hw, hb, hk⟩)
  have HW4 := Lib.hid hw
  have HB4 := Lib.hid (HB3.out.trans hb)
  have HK4 := Lib.hid (HK3.out.trans hk)
  have HT4 : Hid (Ten X ⟨o, d, n, m, a, x, q, (j : Int), t, c⟩ u3) := Lib.hid (ten_of (HK4.out X _ HOb.out (HXn.out) (by intro c fz h; injection h with _ h2 _; exact absurd h2 (by decide))))
  clear hw hb hk
  refine hK.out _ _ (⟨HT4.out.1, HT4.out.2.1, HT4.out.2.2.1, HT4.out.2.2.2.1, HT4.out.2.2.2.2.1, HT4.out.2.2.2.2.2.1, HT4.out.2.2.2.2.2.2.1, HT4.out.2.2.2.2.2.2.2.1, HT4.out.2.2.2.2.2.2.2.2.1, HT4.out.2.2.2.2.2.2.2.2.2, HG.out _ HB4.out⟩) (fun hHeld3 => ?_)
  clear hK K
  refine wpAnyH_done (by kernel_rfl) ?_ _
  clear hHeld0 hHeld2 hHeld3
  go_wp2
  go_end0
  exact ⟨rfl, HW4.out, HB4.out, HKV.out.trans HK4.out⟩
set_option maxRecDepth 100000 in
set_option maxHeartbeats 3000000 in
theorem wshift_a (i : In) (hi : InB i) {B b k : Nat} {bs : List UInt8} (u : World) (hT : TB B u) (hW : IsW B b (k : Int) bs u) (hk : k ≤ 50) (hl : bs.length ≤ 1000) (hB : B ≤ u.heap.size) (hs : 0 ≤ i.shift ∧ i.shift ≤ 3) (h0 : i.shift = 0) (h1 : i.amount ≠ 0) : Calls Tryd.prog 25 #[.pointer (some ⟨b, 0, none⟩), inV i] u (MP B b k bs (shNm i.shift ++ 32 :: intT i.amount) u) := by
  have HP : Hid (∀ v, Below B u v → IsW B b (k : Int) bs v → Calls Tryd.prog 41 #[.pointer (some ⟨b, 0, none⟩), .string ⟨(shNm i.shift ++ 32 :: intT i.amount).toArray⟩] v (MP B b k bs (shNm i.shift ++ 32 :: intT i.amount) v)) := Lib.hid fun v hv hw => sput_any (shNm i.shift ++ 32 :: intT i.amount) hw hk hl (by have := shNm_len i.shift; have := intT_len hi.amount; simp only [List.length_cons, List.length_append]; omega) (sz_le hv hB)
  have HBu := Lib.hid hB
  have HWu := Lib.hid hW
  have HI : Hid (∀ v, Below B u v → Calls Tryd.prog 43 #[.int .i64 i.amount] v (RetB (.string ⟨(intT i.amount).toArray⟩) v)) := Lib.hid fun v hv => intText_any i.amount hi.amount v (hT.next hv).tab
  have hz1 : (⟨(shNm i.shift).toArray⟩ : ByteArray).size = 3 := by rw [ba_size]; exact shNm_len _
  have hz2 : (⟨(intT i.amount).toArray⟩ : ByteArray).size ≤ 22 := by rw [ba_size]; exact intT_len hi.amount
  have HP2 : Hid (∀ v, Below B u v → IsW B b (k : Int) bs v → Calls Tryd.prog 41 #[.pointer (some ⟨b, 0, none⟩), .string ((⟨(shNm i.shift).toArray⟩ : ByteArray) ++ ⟨#[32]⟩ ++ (⟨(intT i.amount).toArray⟩ : ByteArray))] v (MP B b k bs (shNm i.shift ++ 32 :: intT i.amount) v)) := Lib.hid (by rw [← sh_cat]; exact HP.out)
  obtain ⟨j, hj⟩ := Int.eq_ofNat_of_zero_le hs.1
  have hj4 : j < 4 := by omega
  have HG : Hid (∀ v, Below B u v → v.cell? ⟨3, j, none⟩ = some (.string ⟨(shNm i.shift).toArray⟩)) := Lib.hid fun v hv => by rw [hj]; exact (hT.next hv).tab.sh.1 j hj4
  have q1 : (i.shift != 0) = false := by rw [h0]; rfl
  have q2 : (i.amount != 0) = true := by rw [bne_iff_ne]; exact h1
  clear h0 h1
  clear hT hi hW hk hl hB HP hs
  generalize (shNm i.shift ++ 32 :: intT i.amount) = TT at *
  generalize (⟨(shNm i.shift).toArray⟩ : ByteArray) = T1 at *
  generalize (⟨(intT i.amount).toArray⟩ : ByteArray) = T2 at *
  obtain ⟨o, d, n, m, a, x, q, h, t, c⟩ := i
  simp only [] at hj
  subst hj
  try simp only [] at HI
  try simp only [] at q1
  try simp only [] at q2
  obtain ⟨W, hW⟩ : ∃ W, W = u.alloc (.cells (inC ⟨o, d, n, m, a, x, q, (j : Int), t, c⟩) 24) := ⟨_, rfl⟩
  obtain ⟨X, hX⟩ : ∃ X, X = u.heap.size := ⟨_, rfl⟩
  have hTen : Ten X ⟨o, d, n, m, a, x, q, (j : Int), t, c⟩ W := by rw [hW, hX]; exact Ten.made _ _ _
  have HXl : Hid (X < W.heap.size) := Lib.hid (by rw [hW, hX]; simp)
  have HL0 : Hid (Below u.heap.size u W) := Lib.hid (by rw [hW]; exact lit_b u _)
  have HW := Lib.hid hW.symm
  have HX := Lib.hid hX.symm
  have HXb : Hid (B ≤ X) := Lib.hid (by rw [hX]; exact HBu.out)
  obtain ⟨V, hV⟩ : ∃ V, V = W.drew := ⟨_, rfl⟩
  have HV := Lib.hid hV.symm
  have hb1 : Below W.heap.size W V := by rw [hV]; exact (Below.refl _ _).drew
  have HTen : Hid (Ten X ⟨o, d, n, m, a, x, q, (j : Int), t, c⟩ V) := Lib.hid (hTen.below hb1 HXl.out)
  have HL1 := Lib.hid (after HL0.out hb1)
  have HW1 := Lib.hid (HWu.out.below HL1.out)
  have HB1 := Lib.hid (below_le HL1.out HBu.out)
  have HOb : Hid (V.heap[X]? = some (.cells (inC ⟨o, d, n, m, a, x, q, (j : Int), t, c⟩) 24 (0, 0))) := Lib.hid ((hb1.block X HXl.out).trans (by rw [hW, hX]; exact (MapKept.heap_alloc u _).1))
  have HXn : Hid (some X ≠ some b) := Lib.hid (by have := is_lt HWu.out; rw [hX]; intro e; cases e; omega)
  have HKV : Hid (OK b u V) := Lib.hid (OK.of_below HL1.out)
  have HXV : Hid (X < V.heap.size) := Lib.hid (Nat.lt_of_lt_of_le HXl.out hb1.size)
  obtain ⟨x0, x1, x2, x3, x4, x5, x6, x7, x8, x9⟩ := hTen
  clear hW hX hV hb1
  go_enter Tryd.func25, Tryd.ntmps25
  go_wp2_with fail
  rw [HW.out, HX.out]
  go_wp2_with fail
  refine wp_region_held_drew (S := fun v => v.cell? ⟨X, 0, none⟩ = some (.int .i64 o) ∧ v.cell? ⟨X, 1, none⟩ = some (.int .i64 d) ∧ v.cell? ⟨X, 2, none⟩ = some (.int .i64 n) ∧ v.cell? ⟨X, 3, none⟩ = some (.int .i64 m) ∧ v.cell? ⟨X, 4, none⟩ = some (.int .i64 a) ∧ v.cell? ⟨X, 5, none⟩ = some (.int .i64 x) ∧ v.cell? ⟨X, 6, none⟩ = some (.int .u64 q) ∧ v.cell? ⟨X, 7, none⟩ = some (.int .i64 (j : Int)) ∧ v.cell? ⟨X, 8, none⟩ = some (.int .i64 t) ∧ v.cell? ⟨X, 9, none⟩ = some (.int .i64 c) ∧ v.cell? ⟨3, j, none⟩ = some (.string T1)) (by kernel_rfl) (by rw [HV.out]; exact ⟨HTen.out.1, HTen.out.2.1, HTen.out.2.2.1, HTen.out.2.2.2.1, HTen.out.2.2.2.2.1, HTen.out.2.2.2.2.2.1, HTen.out.2.2.2.2.2.2.1, HTen.out.2.2.2.2.2.2.2.1, HTen.out.2.2.2.2.2.2.2.2.1, HTen.out.2.2.2.2.2.2.2.2.2, HG.out _ HB1.out⟩) (fun hHeld => ?_)
  rw [HV.out]
  have hHeld0 : V.cell? ⟨X, 0, none⟩ = some (.int .i64 o) ∧ V.cell? ⟨X, 1, none⟩ = some (.int .i64 d) ∧ V.cell? ⟨X, 2, none⟩ = some (.int .i64 n) ∧ V.cell? ⟨X, 3, none⟩ = some (.int .i64 m) ∧ V.cell? ⟨X, 4, none⟩ = some (.int .i64 a) ∧ V.cell? ⟨X, 5, none⟩ = some (.int .i64 x) ∧ V.cell? ⟨X, 6, none⟩ = some (.int .u64 q) ∧ V.cell? ⟨X, 7, none⟩ = some (.int .i64 (j : Int)) ∧ V.cell? ⟨X, 8, none⟩ = some (.int .i64 t) ∧ V.cell? ⟨X, 9, none⟩ = some (.int .i64 c) ∧ V.cell? ⟨3, j, none⟩ = some (.string T1) := ⟨HTen.out.1, HTen.out.2.1, HTen.out.2.2.1, HTen.out.2.2.2.1, HTen.out.2.2.2.2.1, HTen.out.2.2.2.2.2.1, HTen.out.2.2.2.2.2.2.1, HTen.out.2.2.2.2.2.2.2.1, HTen.out.2.2.2.2.2.2.2.2.1, HTen.out.2.2.2.2.2.2.2.2.2, HG.out _ HB1.out⟩
  clear hHeld x0 x1 x2 x3 x4 x5 x6 x7 x8 x9
  refine tk 0 ?_ rfl hHeld0 ?_ ?_
  rotate_left 1
  · intro w hS; obtain ⟨_, _, _, _, _, _, _, _, _, _, _⟩ := hS; go_simp; (try with_reducible rfl)
  (try simp only [Act.put, List.setIfInBounds_toArray, List.set_cons_zero, List.set_cons_succ])
  refine tk 1 ?_ rfl hHeld0 ?_ ?_
  rotate_left 1
  · intro w hS; obtain ⟨_, _, _, _, _, _, _, _, _, _, _⟩ := hS; go_simp; (try with_reducible rfl)
  (try simp only [Act.put, List.setIfInBounds_toArray, List.set_cons_zero, List.set_cons_succ])
  refine tk 2 ?_ rfl hHeld0 ?_ ?_
  rotate_left 1
  · intro w hS; obtain ⟨_, _, _, _, _, _, _, _, _, _, _⟩ := hS; go_simp; (try with_reducible rfl)
  (try simp only [Act.put, List.setIfInBounds_toArray, List.set_cons_zero, List.set_cons_succ])
  refine tk 3 (.pointer (some ⟨3, j, none⟩)) rfl hHeld0 ?_ ?_
  · intro w hS; go_simp; intro hge; exact absurd hge (by omega)
  (try simp only [Act.put, List.setIfInBounds_toArray, List.set_cons_zero, List.set_cons_succ])
  refine tk 4 ?_ rfl hHeld0 ?_ ?_
  rotate_left 1
  · intro w hS; obtain ⟨_, _, _, _, _, _, _, _, _, _, _⟩ := hS; go_simp; (try with_reducible rfl)
  (try simp only [Act.put, List.setIfInBounds_toArray, List.set_cons_zero, List.set_cons_succ])
  refine tk 5 (.string (T1 ++ ⟨#[32]⟩)) rfl hHeld0 ?_ ?_
  · intro w hS; go_simp; (try with_reducible rfl); (try omega)
  (try simp only [Act.put, List.setIfInBounds_toArray, List.set_cons_zero, List.set_cons_succ])
  refine tk 6 ?_ rfl hHeld0 ?_ ?_
  rotate_left 1
  · intro w hS; obtain ⟨_, _, _, _, _, _, _, _, _, _, _⟩ := hS; go_simp; (try with_reducible rfl)
  (try simp only [Act.put, List.setIfInBounds_toArray, List.set_cons_zero, List.set_cons_succ])
  refine tk 7 ?_ rfl hHeld0 ?_ ?_
  rotate_left 1
  · intro w hS; obtain ⟨_, _, _, _, _, _, _, _, _, _, _⟩ := hS; go_simp; (try with_reducible rfl)
  (try simp only [Act.put, List.setIfInBounds_toArray, List.set_cons_zero, List.set_cons_succ])
  refine rd 8 rfl (fun K hK => ?_)
  go_simp
  go_wp2_with (go_at_call 43; refine (HI.out V HB1.out).mono ?_; rintro e u2 ⟨rfl, hb⟩)
  have HT3 := Lib.hid (HTen.out.below hb HXV.out)
  have HW3 := Lib.hid (HW1.out.below hb)
  have HB3 := Lib.hid (HB1.out.trans (hb.mono (sz_le HB1.out HBu.out)))
  have HK3 := Lib.hid (OK.of_below (b := b) hb)
  clear hb
  refine hK.out _ _ (⟨HT3.out.1, HT3.out.2.1, HT3.out.2.2.1, HT3.out.2.2.2.1, HT3.out.2.2.2.2.1, HT3.out.2.2.2.2.2.1, HT3.out.2.2.2.2.2.2.1, HT3.out.2.2.2.2.2.2.2.1, HT3.out.2.2.2.2.2.2.2.2.1, HT3.out.2.2.2.2.2.2.2.2.2, HG.out _ HB3.out⟩) (fun hHeld2 => ?_)
  clear hK K
  refine tk 9 (.string (T1 ++ ⟨#[32]⟩ ++ T2)) rfl hHeld2 ?_ ?_
  · intro w hS; go_simp; (try with_reducible rfl); (try omega)
  (try simp only [Act.put, List.setIfInBounds_toArray, List.set_cons_zero, List.set_cons_succ])
  refine rd 10 rfl (fun K hK => ?_)
  go_simp
  go_wp2_with (go_at_call 41; refine (HP2.out u2 HB3.out HW3.out).mono ?_; rintro e u3 ⟨rfl, hw, hb, hk⟩)
  have HW4 := Lib.hid hw
  have HB4 := Lib.hid (HB3.out.trans hb)
  have HK4 := Lib.hid (HK3.out.trans hk)
  have HT4 : Hid (Ten X ⟨o, d, n, m, a, x, q, (j : Int), t, c⟩ u3) := Lib.hid (ten_of (HK4.out X _ HOb.out (HXn.out) (by intro c fz h; injection h with _ h2 _; exact absurd h2 (by decide))))
  clear hw hb hk
  refine hK.out _ _ (⟨HT4.out.1, HT4.out.2.1, HT4.out.2.2.1, HT4.out.2.2.2.1, HT4.out.2.2.2.2.1, HT4.out.2.2.2.2.2.1, HT4.out.2.2.2.2.2.2.1, HT4.out.2.2.2.2.2.2.2.1, HT4.out.2.2.2.2.2.2.2.2.1, HT4.out.2.2.2.2.2.2.2.2.2, HG.out _ HB4.out⟩) (fun hHeld3 => ?_)
  clear hK K
  refine wpAnyH_done (by kernel_rfl) ?_ _
  clear hHeld0 hHeld2 hHeld3
  go_wp2
  go_end0
  exact ⟨rfl, HW4.out, HB4.out, HKV.out.trans HK4.out⟩
end Go.Proofs.YtkcgnmicaigjfaaDoor
