/- mem: newArea. -/
import Derived.Test.YtogigmehclmjcaaME6
import Derived.Laws.CopyOwn
import Derived.Laws.Rows
namespace Go.Proofs.Ytogigmehclmjcaa
set_option linter.unusedVariables false
set_option linter.unusedSimpArgs false
open Go.ChangeShapes Go.WideShapes Go.Deep Go.RowKit

theorem info_u8 : (Try.prog.info? 5).map (fun i => (i.zero, i.size, i.bytes)) = some (some (.int .u8 0), 1, 1) := by kernel_rfl
theorem make_u8 (n : Nat) (hn : n ≤ 65536) (w : World) : (Instr.makeSlice 49 (.int .i64 n) (.int .i64 n)).run Try.prog w = .ok (.slice (some ⟨w.heap.size, 0, none⟩) n n) (w.alloc (.cells (madeCells #[.int .u8 0] n) 5)) := by
  obtain ⟨i0, hi0, hz0, hz1, hz2⟩ := info_parts info_u8
  have := run_makeSlice (P := Try.prog) w 49 5 i0 (.int .u8 0) Try.underlying49 hi0 hz0 .i64 .i64 n n (by omega) (by omega) (by rw [hz1]; omega) (by rw [hz2]; omega) (by omega)
  rw [hz1] at this
  simp only [Int.toNat_natCast, Nat.mul_one] at this
  exact this
theorem al2 (W : World) (o1 o2 : Obj) : ((W.alloc o1).alloc o2).drew.heap.size = W.heap.size + 2 ∧ ((W.alloc o1).alloc o2).drew.heap[W.heap.size]? = some o1 ∧ ((W.alloc o1).alloc o2).drew.heap[W.heap.size + 1]? = some o2 ∧ ∀ k, k < W.heap.size → ((W.alloc o1).alloc o2).drew.heap[k]? = W.heap[k]? := by
  have hs : (W.alloc o1).heap.size = W.heap.size + 1 := by simp
  refine ⟨?_, ?_, ?_, fun k hk => ?_⟩
  · show ((W.alloc o1).alloc o2).heap.size = _
    simp
  · show ((W.alloc o1).alloc o2).heap[_]? = _
    rw [Below.heap_alloc _ _ _ (by omega)]; exact (MapKept.heap_alloc W o1).1
  · show ((W.alloc o1).alloc o2).heap[_]? = _
    rw [← hs]; exact (MapKept.heap_alloc _ o2).1
  · show ((W.alloc o1).alloc o2).heap[_]? = _
    rw [Below.heap_alloc _ _ _ (by omega), Below.heap_alloc _ _ _ hk]
theorem al2' {W V : World} {o1 o2 : Obj} {s : Nat} (hs : W.heap.size = s) (h : V = ((W.alloc o1).alloc o2).drew) : V.heap.size = s + 2 ∧ V.heap[s]? = some o1 ∧ V.heap[s + 1]? = some o2 ∧ ∀ k, k < s → V.heap[k]? = W.heap[k]? := by
  subst h; subst hs; exact al2 W o1 o2
theorem set3 {w : World} {X : Nat} {a b c x y z : Value} {T : TypeId} (h : w.heap[X]? = some (.cells #[a, b, c] T (0, 0))) :
    (((w.setCell ⟨X, 0, none⟩ x).setCell ⟨X, 1, none⟩ y).setCell ⟨X, 2, none⟩ z).heap[X]? = some (.cells #[x, y, z] T (0, 0)) := by
  unfold World.setCell
  simp [h, Array.getElem?_modify]
def NewAP (pos : Nat) (kind : Int) (D : ByteArray) (w : World) (e : Ending) (w' : World) : Prop :=
  ∃ b, w.heap.size ≤ b ∧ e = .returned (.agg #[.int .u64 pos, .int .i64 kind, .slice (some ⟨b, 0, none⟩) D.size D.size]) ∧ w'.heap[b]? = some (.cells (Lib.byteCells D.data.toList).toArray 5 (0, 0)) ∧ Below w.heap.size w w'
set_option maxRecDepth 100000 in
set_option maxHeartbeats 2000000 in
theorem newArea_any (pos : Nat) (kind : Int) (D : ByteArray) (w : World) (h1 : 1 ≤ D.size) (h2 : D.size ≤ 65536) : Calls Try.prog 14 #[.agg #[.int .u64 pos, .int .i64 kind, .string D]] w (NewAP pos kind D w) := by
  have hmk := fun w => make_u8 D.size h2 w
  obtain ⟨W, hW⟩ : ∃ W, W = (w.alloc (.cells #[.int .u64 pos, .int .i64 kind, .string D] 42)).alloc (.cells #[.int .u64 0, .int .i64 0, .slice none 0 0] 51) := ⟨_, rfl⟩
  obtain ⟨X, hX⟩ : ∃ X, X = w.heap.size := ⟨_, rfl⟩
  have hWs : W.heap.size = X + 2 := by rw [hW, hX]; simp
  have x0 : W.heap[X]? = some (.cells #[.int .u64 pos, .int .i64 kind, .string D] 42 (0, 0)) := by rw [hW, hX]; exact (Below.heap_alloc _ _ _ (by simp)).trans (MapKept.heap_alloc w _).1
  have c0 : W.cell? ⟨X, 0, none⟩ = some (.int .u64 pos) := by rw [World.cell?, x0]; rfl
  have c1 : W.cell? ⟨X, 1, none⟩ = some (.int .i64 kind) := by rw [World.cell?, x0]; rfl
  have c2 : W.cell? ⟨X, 2, none⟩ = some (.string D) := by rw [World.cell?, x0]; rfl
  have HW := Lib.hid hW
  have HX := Lib.hid hX
  have HX0 := Lib.hid x0
  have hXl : X < W.heap.size := by omega
  clear hW hX x0
  go_enter Try.func14, Try.ntmps14
  go_wp2_with fail
  rw [← HW.out, ← HX.out]
  go_region_held3 (fun w' => w'.cell? ⟨X, 0, none⟩ = some (.int .u64 pos) ∧ w'.cell? ⟨X, 1, none⟩ = some (.int .i64 kind) ∧ w'.cell? ⟨X, 2, none⟩ = some (.string D)) (go_keep) (first | fail)
  · obtain ⟨V, hV⟩ : ∃ V, V = ((W.alloc (.cells (madeCells #[.int .u8 0] D.size) 5)).alloc (.cells #[.int .u64 pos, .int .i64 kind, .slice (some ⟨X + 2, 0, none⟩) D.size D.size] 51)).drew := ⟨_, rfl⟩
    obtain ⟨hVs, hA1, hA2, hA3⟩ := al2' hWs hV
    have hb : V.heap[X + 2]? = some (.cells (madeCells #[.int .u8 0] D.size) 5 (0, 0)) := hA1
    have hY : V.heap[X + 2 + 1]? = some (.cells #[.int .u64 pos, .int .i64 kind, .slice (some ⟨X + 2, 0, none⟩) D.size D.size] 51 (0, 0)) := hA2
    have hR : V.heap[X + 1]? = some (.cells #[.int .u64 0, .int .i64 0, .slice none 0 0] 51 (0, 0)) := by
      rw [hA3 _ (by omega), HW.out]
      have := (MapKept.heap_alloc (w.alloc (.cells #[.int .u64 pos, .int .i64 kind, .string D] 42)) (.cells #[.int .u64 0, .int .i64 0, .slice none 0 0] 51)).1
      rwa [show (w.alloc (.cells #[.int .u64 pos, .int .i64 kind, .string D] 42)).heap.size = X + 1 from by rw [HX.out]; simp] at this
    have hBV : Below w.heap.size w V := by
      have h0 : Below w.heap.size w W := by rw [HW.out]; exact ((Below.refl _ _).alloc (Nat.le_refl _) _).alloc (by simp) _
      rw [hV]
      exact ((h0.alloc h0.size _).alloc (by have := h0.size; simp; omega) _).drew
    rw [← hV]
    have HBV := Lib.hid hBV
    have hcp := fun ty => Lib.run_copy_row_string (P := Try.prog) V 49 9 ty 5 (X + 2) 0 D.size D.size D (madeCells #[.int .u8 0] D.size) 5 Try.underlying49 (by kernel_rfl) hb (Nat.le_refl _) (by rw [size_madeCells]; simp)
    obtain ⟨V2, hV2⟩ : ∃ V2, V2 = V.setRow (X + 2) ((madeCells #[.int .u8 0] D.size).toList.take 0 ++ Lib.byteCells D.data.toList ++ (madeCells #[.int .u8 0] D.size).toList.drop (0 + D.size)).toArray := ⟨_, rfl⟩
    rw [← hV2] at hcp
    have hb2 : V2.heap[X + 2]? = some (.cells (Lib.byteCells D.data.toList).toArray 5 (0, 0)) := by
      rw [hV2, setRow_heap V _ _ _ _ _ hb]
      congr 3
      rw [List.take_zero, List.nil_append, Nat.zero_add, List.drop_of_length_le (by rw [Array.length_toList, size_madeCells]; simp), List.append_nil]
    have hY2 : V2.heap[X + 2 + 1]? = V.heap[X + 2 + 1]? := by rw [hV2]; exact setRow_other V (X + 2) (X + 2 + 1) _ (by omega)
    have hR2 : V2.heap[X + 1]? = V.heap[X + 1]? := by rw [hV2]; exact setRow_other V (X + 2) (X + 1) _ (by omega)
    rw [hY] at hY2
    rw [hR] at hR2
    have hB2 : Below w.heap.size w V2 := by rw [hV2]; exact below_setRow HBV.out (by rw [← HX.out]; omega) _
    have HB2 := Lib.hid hB2
    have HR2 := Lib.hid (set3 (x := .int .u64 pos) (y := .int .i64 kind) (z := .slice (some ⟨X + 2, 0, none⟩) D.size D.size) hR2)
    have Hb2 := Lib.hid hb2
    have y0 : V2.cell? ⟨X + 2 + 1, 0, none⟩ = some (.int .u64 pos) := by rw [World.cell?, hY2]; rfl
    have y1 : V2.cell? ⟨X + 2 + 1, 1, none⟩ = some (.int .i64 kind) := by rw [World.cell?, hY2]; rfl
    have y2 : V2.cell? ⟨X + 2 + 1, 2, none⟩ = some (.slice (some ⟨X + 2, 0, none⟩) D.size D.size) := by rw [World.cell?, hY2]; rfl
    have r0 : V2.cell? ⟨X + 1, 0, none⟩ = some (.int .u64 0) := by rw [World.cell?, hR2]; rfl
    have r1 : V2.cell? ⟨X + 1, 1, none⟩ = some (.int .i64 0) := by rw [World.cell?, hR2]; rfl
    have r2 : V2.cell? ⟨X + 1, 2, none⟩ = some (.slice none 0 0) := by rw [World.cell?, hR2]; rfl
    have g0 : V2.frozen? ⟨X + 1, 0, none⟩ = false := by rw [World.frozen?, hR2]; rfl
    have g1 : V2.frozen? ⟨X + 1, 1, none⟩ = false := by rw [World.frozen?, hR2]; rfl
    have g2 : V2.frozen? ⟨X + 1, 2, none⟩ = false := by rw [World.frozen?, hR2]; rfl
    have v0 : V.cell? ⟨X + 2 + 1, 2, none⟩ = some (.slice (some ⟨X + 2, 0, none⟩) D.size D.size) := by rw [World.cell?, hY]; rfl
    have v1 : V.cell? ⟨X, 2, none⟩ = some (.string D) := by
      rw [World.cell?, show V.heap[X]? = W.heap[X]? from hA3 _ (by omega), HX0.out]; rfl
    have hXV : X < V.heap.size := by omega
    clear hA1 hA2 hA3 hV hV2 hb hY hR hBV hb2 hY2 hR2 hB2 c0 c1 c2 hmk
    go_wp2
    refine bodyPost_ret (results_cell_row (P := Try.prog) rfl _ _ (X + 1) 51 _ (0, 0) _ rfl HR2.out Try.underlying51 rfl (by kernel_rfl)) rfl ?_
    refine ⟨X + 2, by rw [← HX.out]; omega, rfl, ?_, ((HB2.out.setCell (by rw [← HX.out]; simp) _).setCell (by rw [← HX.out]; simp) _).setCell (by rw [← HX.out]; simp) _⟩
    rw [Below.heap_setCell _ _ _ _ (by simp), Below.heap_setCell _ _ _ _ (by simp), Below.heap_setCell _ _ _ _ (by simp)]
    exact Hb2.out
  · obtain ⟨V, hV⟩ : ∃ V, V = ((W.alloc (.cells #[.int .u64 pos, .int .i64 kind, .slice (some ⟨X + 2 + 1, 0, none⟩) D.size D.size] 51)).alloc (.cells (madeCells #[.int .u8 0] D.size) 5)).drew := ⟨_, rfl⟩
    obtain ⟨hVs, hA1, hA2, hA3⟩ := al2' hWs hV
    have hb : V.heap[X + 2 + 1]? = some (.cells (madeCells #[.int .u8 0] D.size) 5 (0, 0)) := hA2
    have hY : V.heap[X + 2]? = some (.cells #[.int .u64 pos, .int .i64 kind, .slice (some ⟨X + 2 + 1, 0, none⟩) D.size D.size] 51 (0, 0)) := hA1
    have hR : V.heap[X + 1]? = some (.cells #[.int .u64 0, .int .i64 0, .slice none 0 0] 51 (0, 0)) := by
      rw [hA3 _ (by omega), HW.out]
      have := (MapKept.heap_alloc (w.alloc (.cells #[.int .u64 pos, .int .i64 kind, .string D] 42)) (.cells #[.int .u64 0, .int .i64 0, .slice none 0 0] 51)).1
      rwa [show (w.alloc (.cells #[.int .u64 pos, .int .i64 kind, .string D] 42)).heap.size = X + 1 from by rw [HX.out]; simp] at this
    have hBV : Below w.heap.size w V := by
      have h0 : Below w.heap.size w W := by rw [HW.out]; exact ((Below.refl _ _).alloc (Nat.le_refl _) _).alloc (by simp) _
      rw [hV]
      exact ((h0.alloc h0.size _).alloc (by have := h0.size; simp; omega) _).drew
    rw [← hV]
    have HBV := Lib.hid hBV
    have hcp := fun ty => Lib.run_copy_row_string (P := Try.prog) V 49 9 ty 5 (X + 2 + 1) 0 D.size D.size D (madeCells #[.int .u8 0] D.size) 5 Try.underlying49 (by kernel_rfl) hb (Nat.le_refl _) (by rw [size_madeCells]; simp)
    obtain ⟨V2, hV2⟩ : ∃ V2, V2 = V.setRow (X + 2 + 1) ((madeCells #[.int .u8 0] D.size).toList.take 0 ++ Lib.byteCells D.data.toList ++ (madeCells #[.int .u8 0] D.size).toList.drop (0 + D.size)).toArray := ⟨_, rfl⟩
    rw [← hV2] at hcp
    have hb2 : V2.heap[X + 2 + 1]? = some (.cells (Lib.byteCells D.data.toList).toArray 5 (0, 0)) := by
      rw [hV2, setRow_heap V _ _ _ _ _ hb]
      congr 3
      rw [List.take_zero, List.nil_append, Nat.zero_add, List.drop_of_length_le (by rw [Array.length_toList, size_madeCells]; simp), List.append_nil]
    have hY2 : V2.heap[X + 2]? = V.heap[X + 2]? := by rw [hV2]; exact setRow_other V (X + 2 + 1) (X + 2) _ (by omega)
    have hR2 : V2.heap[X + 1]? = V.heap[X + 1]? := by rw [hV2]; exact setRow_other V (X + 2 + 1) (X + 1) _ (by omega)
    rw [hY] at hY2
    rw [hR] at hR2
    have hB2 : Below w.heap.size w V2 := by rw [hV2]; exact below_setRow HBV.out (by rw [← HX.out]; omega) _
    have HB2 := Lib.hid hB2
    have HR2 := Lib.hid (set3 (x := .int .u64 pos) (y := .int .i64 kind) (z := .slice (some ⟨X + 2 + 1, 0, none⟩) D.size D.size) hR2)
    have Hb2 := Lib.hid hb2
    have y0 : V2.cell? ⟨X + 2, 0, none⟩ = some (.int .u64 pos) := by rw [World.cell?, hY2]; rfl
    have y1 : V2.cell? ⟨X + 2, 1, none⟩ = some (.int .i64 kind) := by rw [World.cell?, hY2]; rfl
    have y2 : V2.cell? ⟨X + 2, 2, none⟩ = some (.slice (some ⟨X + 2 + 1, 0, none⟩) D.size D.size) := by rw [World.cell?, hY2]; rfl
    have r0 : V2.cell? ⟨X + 1, 0, none⟩ = some (.int .u64 0) := by rw [World.cell?, hR2]; rfl
    have r1 : V2.cell? ⟨X + 1, 1, none⟩ = some (.int .i64 0) := by rw [World.cell?, hR2]; rfl
    have r2 : V2.cell? ⟨X + 1, 2, none⟩ = some (.slice none 0 0) := by rw [World.cell?, hR2]; rfl
    have g0 : V2.frozen? ⟨X + 1, 0, none⟩ = false := by rw [World.frozen?, hR2]; rfl
    have g1 : V2.frozen? ⟨X + 1, 1, none⟩ = false := by rw [World.frozen?, hR2]; rfl
    have g2 : V2.frozen? ⟨X + 1, 2, none⟩ = false := by rw [World.frozen?, hR2]; rfl
    have v0 : V.cell? ⟨X + 2, 2, none⟩ = some (.slice (some ⟨X + 2 + 1, 0, none⟩) D.size D.size) := by rw [World.cell?, hY]; rfl
    have v1 : V.cell? ⟨X, 2, none⟩ = some (.string D) := by
      rw [World.cell?, show V.heap[X]? = W.heap[X]? from hA3 _ (by omega), HX0.out]; rfl
    have hXV : X < V.heap.size := by omega
    clear hA1 hA2 hA3 hV hV2 hb hY hR hBV hb2 hY2 hR2 hB2 c0 c1 c2 hmk
    go_wp2
    refine bodyPost_ret (results_cell_row (P := Try.prog) rfl _ _ (X + 1) 51 _ (0, 0) _ rfl HR2.out Try.underlying51 rfl (by kernel_rfl)) rfl ?_
    refine ⟨X + 2 + 1, by rw [← HX.out]; omega, rfl, ?_, ((HB2.out.setCell (by rw [← HX.out]; simp) _).setCell (by rw [← HX.out]; simp) _).setCell (by rw [← HX.out]; simp) _⟩
    rw [Below.heap_setCell _ _ _ _ (by simp), Below.heap_setCell _ _ _ _ (by simp), Below.heap_setCell _ _ _ _ (by simp)]
    exact Hb2.out
end Go.Proofs.Ytogigmehclmjcaa
