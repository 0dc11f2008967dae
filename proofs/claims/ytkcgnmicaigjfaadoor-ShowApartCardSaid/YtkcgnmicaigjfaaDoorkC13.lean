/- code.Decode: a panic, recovered. -/
import Derived.Test.YtkcgnmicaigjfaaDoorkCT
import Derived.Test.YtkcgnmicaigjfaaDoorkCU
import Derived.Defers
import Derived.Recover
import Derived.Laws.Pointers
namespace Go.Proofs.YtkcgnmicaigjfaaDoor
set_option linter.unusedVariables false
set_option linter.unusedSimpArgs false
open Go.RowKit

theorem hset {w : World} {b o : Nat} {x : Value} {cs : Array Value} {T : TypeId} {fr : Nat × Nat} (hb : w.heap[b]? = some (.cells cs T fr)) : (w.setCell ⟨b, o, none⟩ x).heap[b]? = some (.cells (cs.setIfInBounds o x) T fr) := by
  simp [World.setCell, Array.getElem?_modify, hb]
theorem hother {w : World} {b c o : Nat} {x : Value} (h : c ≠ b) : (w.setCell ⟨b, o, none⟩ x).heap[c]? = w.heap[c]? := Below.heap_setCell _ _ _ _ h
/-- A struct's ten cells, laid anew. -/
abbrev set10 (w : World) (B : Nat) (i : In) : World :=
  ((((((((((w.setCell ⟨B, 0, none⟩ (.int .i64 i.op)).setCell ⟨B, 1, none⟩ (.int .i64 i.d)).setCell ⟨B, 2, none⟩ (.int .i64 i.n)).setCell ⟨B, 3, none⟩ (.int .i64 i.m)).setCell ⟨B, 4, none⟩ (.int .i64 i.a)).setCell ⟨B, 5, none⟩ (.int .i64 i.imm)).setCell ⟨B, 6, none⟩ (.int .u64 i.mask)).setCell ⟨B, 7, none⟩ (.int .i64 i.shift)).setCell ⟨B, 8, none⟩ (.int .i64 i.amount)).setCell ⟨B, 9, none⟩ (.int .i64 i.cond))
theorem set10_heap {w : World} {B : Nat} {i j : In} {T : TypeId} (h : w.heap[B]? = some (.cells (inC j) T (0, 0))) : (set10 w B i).heap[B]? = some (.cells (inC i) T (0, 0)) := by
  have h0 : (w.setCell ⟨B, 0, none⟩ (.int .i64 i.op)).heap[B]? = some (.cells #[.int .i64 i.op, .int .i64 j.d, .int .i64 j.n, .int .i64 j.m, .int .i64 j.a, .int .i64 j.imm, .int .u64 j.mask, .int .i64 j.shift, .int .i64 j.amount, .int .i64 j.cond] T (0, 0)) := hset h
  have h1 : ((w.setCell ⟨B, 0, none⟩ (.int .i64 i.op)).setCell ⟨B, 1, none⟩ (.int .i64 i.d)).heap[B]? = some (.cells #[.int .i64 i.op, .int .i64 i.d, .int .i64 j.n, .int .i64 j.m, .int .i64 j.a, .int .i64 j.imm, .int .u64 j.mask, .int .i64 j.shift, .int .i64 j.amount, .int .i64 j.cond] T (0, 0)) := hset h0
  have h2 : (((w.setCell ⟨B, 0, none⟩ (.int .i64 i.op)).setCell ⟨B, 1, none⟩ (.int .i64 i.d)).setCell ⟨B, 2, none⟩ (.int .i64 i.n)).heap[B]? = some (.cells #[.int .i64 i.op, .int .i64 i.d, .int .i64 i.n, .int .i64 j.m, .int .i64 j.a, .int .i64 j.imm, .int .u64 j.mask, .int .i64 j.shift, .int .i64 j.amount, .int .i64 j.cond] T (0, 0)) := hset h1
  have h3 : ((((w.setCell ⟨B, 0, none⟩ (.int .i64 i.op)).setCell ⟨B, 1, none⟩ (.int .i64 i.d)).setCell ⟨B, 2, none⟩ (.int .i64 i.n)).setCell ⟨B, 3, none⟩ (.int .i64 i.m)).heap[B]? = some (.cells #[.int .i64 i.op, .int .i64 i.d, .int .i64 i.n, .int .i64 i.m, .int .i64 j.a, .int .i64 j.imm, .int .u64 j.mask, .int .i64 j.shift, .int .i64 j.amount, .int .i64 j.cond] T (0, 0)) := hset h2
  have h4 : (((((w.setCell ⟨B, 0, none⟩ (.int .i64 i.op)).setCell ⟨B, 1, none⟩ (.int .i64 i.d)).setCell ⟨B, 2, none⟩ (.int .i64 i.n)).setCell ⟨B, 3, none⟩ (.int .i64 i.m)).setCell ⟨B, 4, none⟩ (.int .i64 i.a)).heap[B]? = some (.cells #[.int .i64 i.op, .int .i64 i.d, .int .i64 i.n, .int .i64 i.m, .int .i64 i.a, .int .i64 j.imm, .int .u64 j.mask, .int .i64 j.shift, .int .i64 j.amount, .int .i64 j.cond] T (0, 0)) := hset h3
  have h5 : ((((((w.setCell ⟨B, 0, none⟩ (.int .i64 i.op)).setCell ⟨B, 1, none⟩ (.int .i64 i.d)).setCell ⟨B, 2, none⟩ (.int .i64 i.n)).setCell ⟨B, 3, none⟩ (.int .i64 i.m)).setCell ⟨B, 4, none⟩ (.int .i64 i.a)).setCell ⟨B, 5, none⟩ (.int .i64 i.imm)).heap[B]? = some (.cells #[.int .i64 i.op, .int .i64 i.d, .int .i64 i.n, .int .i64 i.m, .int .i64 i.a, .int .i64 i.imm, .int .u64 j.mask, .int .i64 j.shift, .int .i64 j.amount, .int .i64 j.cond] T (0, 0)) := hset h4
  have h6 : (((((((w.setCell ⟨B, 0, none⟩ (.int .i64 i.op)).setCell ⟨B, 1, none⟩ (.int .i64 i.d)).setCell ⟨B, 2, none⟩ (.int .i64 i.n)).setCell ⟨B, 3, none⟩ (.int .i64 i.m)).setCell ⟨B, 4, none⟩ (.int .i64 i.a)).setCell ⟨B, 5, none⟩ (.int .i64 i.imm)).setCell ⟨B, 6, none⟩ (.int .u64 i.mask)).heap[B]? = some (.cells #[.int .i64 i.op, .int .i64 i.d, .int .i64 i.n, .int .i64 i.m, .int .i64 i.a, .int .i64 i.imm, .int .u64 i.mask, .int .i64 j.shift, .int .i64 j.amount, .int .i64 j.cond] T (0, 0)) := hset h5
  have h7 : ((((((((w.setCell ⟨B, 0, none⟩ (.int .i64 i.op)).setCell ⟨B, 1, none⟩ (.int .i64 i.d)).setCell ⟨B, 2, none⟩ (.int .i64 i.n)).setCell ⟨B, 3, none⟩ (.int .i64 i.m)).setCell ⟨B, 4, none⟩ (.int .i64 i.a)).setCell ⟨B, 5, none⟩ (.int .i64 i.imm)).setCell ⟨B, 6, none⟩ (.int .u64 i.mask)).setCell ⟨B, 7, none⟩ (.int .i64 i.shift)).heap[B]? = some (.cells #[.int .i64 i.op, .int .i64 i.d, .int .i64 i.n, .int .i64 i.m, .int .i64 i.a, .int .i64 i.imm, .int .u64 i.mask, .int .i64 i.shift, .int .i64 j.amount, .int .i64 j.cond] T (0, 0)) := hset h6
  have h8 : (((((((((w.setCell ⟨B, 0, none⟩ (.int .i64 i.op)).setCell ⟨B, 1, none⟩ (.int .i64 i.d)).setCell ⟨B, 2, none⟩ (.int .i64 i.n)).setCell ⟨B, 3, none⟩ (.int .i64 i.m)).setCell ⟨B, 4, none⟩ (.int .i64 i.a)).setCell ⟨B, 5, none⟩ (.int .i64 i.imm)).setCell ⟨B, 6, none⟩ (.int .u64 i.mask)).setCell ⟨B, 7, none⟩ (.int .i64 i.shift)).setCell ⟨B, 8, none⟩ (.int .i64 i.amount)).heap[B]? = some (.cells #[.int .i64 i.op, .int .i64 i.d, .int .i64 i.n, .int .i64 i.m, .int .i64 i.a, .int .i64 i.imm, .int .u64 i.mask, .int .i64 i.shift, .int .i64 i.amount, .int .i64 j.cond] T (0, 0)) := hset h7
  have h9 : ((((((((((w.setCell ⟨B, 0, none⟩ (.int .i64 i.op)).setCell ⟨B, 1, none⟩ (.int .i64 i.d)).setCell ⟨B, 2, none⟩ (.int .i64 i.n)).setCell ⟨B, 3, none⟩ (.int .i64 i.m)).setCell ⟨B, 4, none⟩ (.int .i64 i.a)).setCell ⟨B, 5, none⟩ (.int .i64 i.imm)).setCell ⟨B, 6, none⟩ (.int .u64 i.mask)).setCell ⟨B, 7, none⟩ (.int .i64 i.shift)).setCell ⟨B, 8, none⟩ (.int .i64 i.amount)).setCell ⟨B, 9, none⟩ (.int .i64 i.cond)).heap[B]? = some (.cells #[.int .i64 i.op, .int .i64 i.d, .int .i64 i.n, .int .i64 i.m, .int .i64 i.a, .int .i64 i.imm, .int .u64 i.mask, .int .i64 i.shift, .int .i64 i.amount, .int .i64 i.cond] T (0, 0)) := hset h8
  exact h9
theorem set10_other {w : World} {B c : Nat} {i : In} (h : c ≠ B) : (set10 w B i).heap[c]? = w.heap[c]? := by
  unfold set10
  rw [hother h, hother h, hother h, hother h, hother h, hother h, hother h, hother h, hother h, hother h]
theorem set10_below {w w0 : World} {B : Nat} {i : In} (h : Below w0.heap.size w0 w) (hB : w0.heap.size ≤ B) : Below w0.heap.size w0 (set10 w B i) := by
  unfold set10
  exact bel_set (bel_set (bel_set (bel_set (bel_set (bel_set (bel_set (bel_set (bel_set (bel_set h hB) hB) hB) hB) hB) hB) hB) hB) hB) hB

set_option maxHeartbeats 1000000 in
theorem catch_panicking (B C : Nat) (j : In) (y : Int) (u : TypeId) (pv : Value) (older : List PanicEntry) (w : World) (h1 : w.heap[B]? = some (.cells (inC j) 24 (0, 0))) (h2 : w.heap[C]? = some (.cells #[.int .i64 y] 25 (0, 0))) (hBC : B ≠ C) :
    CallsD Tryd.prog 46 #[.pointer (some ⟨B, 0, none⟩), .pointer (some ⟨C, 0, none⟩)] (.panicking ({ v := .iface u pv, recovered := false } :: older)) w fun e u' w' =>
      e = .returned (.tuple #[]) ∧ u' = .panicking ({ v := .iface u pv, recovered := true } :: older) ∧ w' = (set10 w B inZ).setCell ⟨C, 0, none⟩ (.int .i64 11) := by
  refine callsD_of_wpS Tryd.func46 rfl fun c₀ cs hu => ?_
  apply wpS_seq
  apply wpS_region
  simp [wpOpsS, go_sem, recoverD, hu, Tryd.ntmps46, Exit.thenS]
  refine wpS_cond (t := true) (by simp [Act.eval, Array.replicate]) ?_
  simp only [if_true]
  have c0 : w.cell? ⟨B, 0, none⟩ = some (.int .i64 j.op) := cel h1
  have q0 : w.frozen? ⟨B, 0, none⟩ = false := frz h1
  have c1 : w.cell? ⟨B, 1, none⟩ = some (.int .i64 j.d) := cel h1
  have q1 : w.frozen? ⟨B, 1, none⟩ = false := frz h1
  have c2 : w.cell? ⟨B, 2, none⟩ = some (.int .i64 j.n) := cel h1
  have q2 : w.frozen? ⟨B, 2, none⟩ = false := frz h1
  have c3 : w.cell? ⟨B, 3, none⟩ = some (.int .i64 j.m) := cel h1
  have q3 : w.frozen? ⟨B, 3, none⟩ = false := frz h1
  have c4 : w.cell? ⟨B, 4, none⟩ = some (.int .i64 j.a) := cel h1
  have q4 : w.frozen? ⟨B, 4, none⟩ = false := frz h1
  have c5 : w.cell? ⟨B, 5, none⟩ = some (.int .i64 j.imm) := cel h1
  have q5 : w.frozen? ⟨B, 5, none⟩ = false := frz h1
  have c6 : w.cell? ⟨B, 6, none⟩ = some (.int .u64 j.mask) := cel h1
  have q6 : w.frozen? ⟨B, 6, none⟩ = false := frz h1
  have c7 : w.cell? ⟨B, 7, none⟩ = some (.int .i64 j.shift) := cel h1
  have q7 : w.frozen? ⟨B, 7, none⟩ = false := frz h1
  have c8 : w.cell? ⟨B, 8, none⟩ = some (.int .i64 j.amount) := cel h1
  have q8 : w.frozen? ⟨B, 8, none⟩ = false := frz h1
  have c9 : w.cell? ⟨B, 9, none⟩ = some (.int .i64 j.cond) := cel h1
  have q9 : w.frozen? ⟨B, 9, none⟩ = false := frz h1
  have e0 : w.cell? ⟨C, 0, none⟩ = some (.int .i64 y) := cel h2
  have e1 : w.frozen? ⟨C, 0, none⟩ = false := frz h2
  refine wpS_of_wp ?_
  go_wp2
  cases c₀
  simp_all [bodyPostS, results, Tryd.results46]

theorem catch_idle (B C : Nat) (w : World) : CallsD Tryd.prog 46 #[.pointer (some ⟨B, 0, none⟩), .pointer (some ⟨C, 0, none⟩)] .returning w fun e u' w' => e = .returned (.tuple #[]) ∧ u' = .returning ∧ w' = w := by
  refine callsD_of_wpS Tryd.func46 rfl fun c₀ cs hu => ?_
  apply wpS_seq
  apply wpS_region
  simp [wpOpsS, go_sem, recoverD, hu, Tryd.ntmps46, Exit.thenS]
  refine wpS_cond (t := false) (by simp [Act.eval, Array.replicate]) ?_
  simp only [Bool.false_eq_true, if_false]
  refine wpS_of_wp (wp_skip ?_)
  cases c₀
  simp_all [bodyPostS, results, Tryd.results46]

theorem res_blocks {w w' : World} {Z E : Array Value} {T U : TypeId} (hb : Below ((w.alloc (.cells Z T)).alloc (.cells E U)).heap.size ((w.alloc (.cells Z T)).alloc (.cells E U)) w') :
    w'.heap[w.heap.size]? = some (.cells Z T (0, 0)) ∧ w'.heap[w.heap.size + 1]? = some (.cells E U (0, 0)) ∧ Below w.heap.size w w' := by
  have := two_blocks (a := 0) (b := 0) (w := w) (w' := w') (Z := Z) (I := E) (T := T) (U := U) hb
  exact this
abbrev out2 (p : In × Int) : Value := .tuple #[inV p.1, .int .i64 p.2]

set_option maxRecDepth 100000 in
set_option maxHeartbeats 4000000 in
theorem CDecode_no (x : Nat) (hx : x < 4294967296) (w : World) (hw : Tab6 w) (h : noI x) : Calls Tryd.prog 33 #[.int .u32 x] w (RetB (out2 (inZ, 11)) w) := by
  have hmf : ∀ (fn : Fn) (first cap : Array Value) (w : World), (Instr.makeFunc fn first cap).run Tryd.prog w = .ok (.func fn first cap) w := fun _ _ _ _ => rfl
  have hZ : ∀ w, (zeroValue 24).run Tryd.prog w = .ok (.agg (inC inZ)) w := fun w => by kernel_rfl
  have hE : ∀ w, (zeroValue 25).run Tryd.prog w = .ok (.int .i64 0) w := fun w => by kernel_rfl
  have HT := Lib.hid hw
  have HW : Hid (∀ w, Tab6 w → Calls Tryd.prog 47 #[.int .u32 x] w (Throws w)) := Lib.hid fun w hw => winst_no x hx w hw h
  have HB2 : Hid (Below w.heap.size w ((w.alloc (.cells (inC inZ) 24)).alloc (.cells #[.int .i64 0] 25))) := Lib.hid (bel_alloc (bel_alloc (Below.refl _ _) _) _)
  clear hw h
  go_enter_defers Tryd.func33, Tryd.ntmps33
  go_wp2_with (go_at_call 47; ((with_reducible refine (HW.out _ (HT.out.below HB2.out)).mono ?_); rintro e w2 ⟨rfl, hb⟩; obtain ⟨hz, he, hbw⟩ := res_blocks hb))
  refine leaves_cons (f := 46) (args := #[.pointer (some ⟨w.heap.size, 0, none⟩), .pointer (some ⟨w.heap.size + 1, 0, none⟩)]) (by simp) (by simp [go_sem]) ?_
  refine (catch_panicking w.heap.size (w.heap.size + 1) inZ 0 _ _ [] _ hz he (by omega)).mono ?_
  rintro e u' w4 ⟨rfl, rfl, hw4⟩
  have hB4 : w4.heap[w.heap.size]? = some (.cells (inC inZ) 24 (0, 0)) := by rw [hw4, hother (by omega)]; exact set10_heap hz
  have hC4 : w4.heap[w.heap.size + 1]? = some (.cells #[.int .i64 11] 25 (0, 0)) := by
    rw [hw4]
    exact hset (o := 0) (x := .int .i64 11) ((set10_other (i := inZ) (by omega)).trans he)
  have hb4 : Below w.heap.size w w4 := by rw [hw4]; exact bel_set (set10_below hbw (Nat.le_refl _)) (by omega)
  have b0 : w4.cell? ⟨w.heap.size, 0, none⟩ = some (.int .i64 0) := cel hB4
  have b1 : w4.cell? ⟨w.heap.size, 1, none⟩ = some (.int .i64 0) := cel hB4
  have b2 : w4.cell? ⟨w.heap.size, 2, none⟩ = some (.int .i64 0) := cel hB4
  have b3 : w4.cell? ⟨w.heap.size, 3, none⟩ = some (.int .i64 0) := cel hB4
  have b4 : w4.cell? ⟨w.heap.size, 4, none⟩ = some (.int .i64 0) := cel hB4
  have b5 : w4.cell? ⟨w.heap.size, 5, none⟩ = some (.int .i64 0) := cel hB4
  have b6 : w4.cell? ⟨w.heap.size, 6, none⟩ = some (.int .u64 0) := cel hB4
  have b7 : w4.cell? ⟨w.heap.size, 7, none⟩ = some (.int .i64 0) := cel hB4
  have b8 : w4.cell? ⟨w.heap.size, 8, none⟩ = some (.int .i64 0) := cel hB4
  have b9 : w4.cell? ⟨w.heap.size, 9, none⟩ = some (.int .i64 0) := cel hB4
  have d0 : w4.cell? ⟨w.heap.size + 1, 0, none⟩ = some (.int .i64 11) := cel hC4
  simp [Leaves, settle, results, Tryd.results33, go_sem, b0, b1, b2, b3, b4, b5, b6, b7, b8, b9, d0]
  exact ⟨rfl, hb4⟩

theorem readW_inB (x : Nat) (hx : x < 4294967296) : InB (readW x) := by
  have hm := decW_mask (opW x : Nat) (shapeI (opW x : Nat)).toNat x
  have ho : i64B ((opW x : Nat) : Int) := by
    have := opW_or x
    unfold i64B; omega
  have z : i64B 0 := by unfold i64B; omega
  have f : ∀ a n, n ≤ 32 → i64B (fw x a n) := fun a n h => by have := fw_u32 x a n h; unfold i64B; omega
  have f16 : i64B (16 * fw x 21 2) := by have := fw_u32 x 21 2 (by decide); unfold i64B; omega
  have f12 : i64B (12 * fw x 22 1) := by have := fw_u32 x 22 1 (by decide); unfold i64B; omega
  have f8 : i64B (8 * fw x 10 12) := by have := fw_u32 x 10 12 (by decide); unfold i64B; omega
  have s9 : i64B (4 * (sgn (fw x 5 19) 19).1) := by
    have h := fw_lt x 5 19
    have := sgn19 (v := fw x 5 19) (by simpa using h)
    unfold i64B; omega
  have s10 : i64B (4 * (sgn (fw x 5 19) 19).1 + fw x 29 2) := by
    have h := fw_lt x 5 19
    have := sgn19 (v := fw x 5 19) (by simpa using h)
    have := fw_u32 x 29 2 (by decide)
    unfold i64B; omega
  have s11 : i64B (4 * (sgn (fw x 0 26) 26).1) := by
    have h := fw_lt x 0 26
    have := sgn26 (v := fw x 0 26) (by simpa using h)
    unfold i64B; omega
  unfold readW at *
  generalize (shapeI (opW x : Nat)).toNat = s at *
  refine ⟨?_, ?_, ?_, ?_, ?_, ?_, hm, ?_, ?_, ?_⟩
  all_goals
    unfold decW
    split
  all_goals first | exact ho | exact z | exact f16 | exact f12 | exact f8 | exact s9 | exact s10 | exact s11 | exact f _ _ (by decide)

set_option maxRecDepth 100000 in
set_option maxHeartbeats 4000000 in
theorem CDecode_wrong (x : Nat) (hx : x < 4294967296) (w : World) (hw : Tab6 w) (h : ¬ noI x) (hI : isI (readW x) = false) : Calls Tryd.prog 33 #[.int .u32 x] w (RetB (out2 (inZ, 11)) w) := by
  have hmf : ∀ (fn : Fn) (first cap : Array Value) (w : World), (Instr.makeFunc fn first cap).run Tryd.prog w = .ok (.func fn first cap) w := fun _ _ _ _ => rfl
  have hZ : ∀ w, (zeroValue 24).run Tryd.prog w = .ok (.agg (inC inZ)) w := fun w => by kernel_rfl
  have hE : ∀ w, (zeroValue 25).run Tryd.prog w = .ok (.int .i64 0) w := fun w => by kernel_rfl
  have HT := Lib.hid hw
  have HW : Hid (∀ w, Tab6 w → Calls Tryd.prog 47 #[.int .u32 x] w (RetB (inV (readW x)) w)) := Lib.hid fun w hw => winst_yes x hx w hw h
  have HIs : Hid (∀ w, Tab6 w → Calls Tryd.prog 9 #[inV (readW x)] w (RetB (.bool false) w)) := Lib.hid fun w hw => by
    have := InstIs_any (readW x) w hw.1 (readW_inB x hx)
    rwa [hI] at this
  have HB2 : Hid (Below w.heap.size w ((w.alloc (.cells (inC inZ) 24)).alloc (.cells #[.int .i64 0] 25))) := Lib.hid (bel_alloc (bel_alloc (Below.refl _ _) _) _)
  clear hw h hI
  generalize readW x = r at *
  obtain ⟨o, d, n, m, a, xx, k, hh, t, c⟩ := r
  go_enter_defers Tryd.func33, Tryd.ntmps33
  go_wp2_with (first
    | (go_at_call 47; ((with_reducible refine (HW.out _ (HT.out.below HB2.out)).mono ?_); rintro e w2 ⟨rfl, hb⟩; obtain ⟨hz, he, hbw⟩ := res_blocks hb; clear hb; have z0 : w2.cell? ⟨w.heap.size, 0, none⟩ = some (.int .i64 0) := cel hz; have y0 : w2.frozen? ⟨w.heap.size, 0, none⟩ = false := frz hz; have z1 : w2.cell? ⟨w.heap.size, 1, none⟩ = some (.int .i64 0) := cel hz; have y1 : w2.frozen? ⟨w.heap.size, 1, none⟩ = false := frz hz; have z2 : w2.cell? ⟨w.heap.size, 2, none⟩ = some (.int .i64 0) := cel hz; have y2 : w2.frozen? ⟨w.heap.size, 2, none⟩ = false := frz hz; have z3 : w2.cell? ⟨w.heap.size, 3, none⟩ = some (.int .i64 0) := cel hz; have y3 : w2.frozen? ⟨w.heap.size, 3, none⟩ = false := frz hz; have z4 : w2.cell? ⟨w.heap.size, 4, none⟩ = some (.int .i64 0) := cel hz; have y4 : w2.frozen? ⟨w.heap.size, 4, none⟩ = false := frz hz; have z5 : w2.cell? ⟨w.heap.size, 5, none⟩ = some (.int .i64 0) := cel hz; have y5 : w2.frozen? ⟨w.heap.size, 5, none⟩ = false := frz hz; have z6 : w2.cell? ⟨w.heap.size, 6, none⟩ = some (.int .u64 0) := cel hz; have y6 : w2.frozen? ⟨w.heap.size, 6, none⟩ = false := frz hz; have z7 : w2.cell? ⟨w.heap.size, 7, none⟩ = some (.int .i64 0) := cel hz; have y7 : w2.frozen? ⟨w.heap.size, 7, none⟩ = false := frz hz; have z8 : w2.cell? ⟨w.heap.size, 8, none⟩ = some (.int .i64 0) := cel hz; have y8 : w2.frozen? ⟨w.heap.size, 8, none⟩ = false := frz hz; have z9 : w2.cell? ⟨w.heap.size, 9, none⟩ = some (.int .i64 0) := cel hz; have y9 : w2.frozen? ⟨w.heap.size, 9, none⟩ = false := frz hz; have hz3 := set10_heap (i := ⟨o, d, n, m, a, xx, k, hh, t, c⟩) hz; have he3 := (set10_other (w := w2) (B := w.heap.size) (c := w.heap.size + 1) (i := ⟨o, d, n, m, a, xx, k, hh, t, c⟩) (by omega)).trans he; have hbw3 := set10_below (i := ⟨o, d, n, m, a, xx, k, hh, t, c⟩) hbw (Nat.le_refl _)))
    | (go_at_call 9; ((with_reducible refine (HIs.out _ (HT.out.below hbw3)).mono ?_); rintro e w3 ⟨rfl, hb⟩; have hlt : w.heap.size + 1 < (set10 w2 w.heap.size ⟨o, d, n, m, a, xx, k, hh, t, c⟩).heap.size := (Array.getElem?_eq_some_iff.1 he3).1; replace hz := (hb.block w.heap.size (by omega)).trans hz3; replace he := (hb.block (w.heap.size + 1) hlt).trans he3; replace hbw := hbw3.trans (hb.mono hbw3.size); clear hb hz3 he3 hbw3 hlt; have g0 : w3.cell? ⟨w.heap.size, 0, none⟩ = some (.int .i64 o) := cel hz; have l0 : w3.frozen? ⟨w.heap.size, 0, none⟩ = false := frz hz; have g1 : w3.cell? ⟨w.heap.size, 1, none⟩ = some (.int .i64 d) := cel hz; have l1 : w3.frozen? ⟨w.heap.size, 1, none⟩ = false := frz hz; have g2 : w3.cell? ⟨w.heap.size, 2, none⟩ = some (.int .i64 n) := cel hz; have l2 : w3.frozen? ⟨w.heap.size, 2, none⟩ = false := frz hz; have g3 : w3.cell? ⟨w.heap.size, 3, none⟩ = some (.int .i64 m) := cel hz; have l3 : w3.frozen? ⟨w.heap.size, 3, none⟩ = false := frz hz; have g4 : w3.cell? ⟨w.heap.size, 4, none⟩ = some (.int .i64 a) := cel hz; have l4 : w3.frozen? ⟨w.heap.size, 4, none⟩ = false := frz hz; have g5 : w3.cell? ⟨w.heap.size, 5, none⟩ = some (.int .i64 xx) := cel hz; have l5 : w3.frozen? ⟨w.heap.size, 5, none⟩ = false := frz hz; have g6 : w3.cell? ⟨w.heap.size, 6, none⟩ = some (.int .u64 k) := cel hz; have l6 : w3.frozen? ⟨w.heap.size, 6, none⟩ = false := frz hz; have g7 : w3.cell? ⟨w.heap.size, 7, none⟩ = some (.int .i64 hh) := cel hz; have l7 : w3.frozen? ⟨w.heap.size, 7, none⟩ = false := frz hz; have g8 : w3.cell? ⟨w.heap.size, 8, none⟩ = some (.int .i64 t) := cel hz; have l8 : w3.frozen? ⟨w.heap.size, 8, none⟩ = false := frz hz; have g9 : w3.cell? ⟨w.heap.size, 9, none⟩ = some (.int .i64 c) := cel hz; have l9 : w3.frozen? ⟨w.heap.size, 9, none⟩ = false := frz hz; have g10 : w3.cell? ⟨w.heap.size + 1, 0, none⟩ = some (.int .i64 0) := cel he; have l10 : w3.frozen? ⟨w.heap.size + 1, 0, none⟩ = false := frz he)))
  refine leaves_cons (f := 46) (args := #[.pointer (some ⟨w.heap.size, 0, none⟩), .pointer (some ⟨w.heap.size + 1, 0, none⟩)]) (by simp) (by simp [go_sem]) ?_
  refine (catch_panicking w.heap.size (w.heap.size + 1) ⟨o, d, n, m, a, xx, k, hh, t, c⟩ 0 _ _ [] _ hz he (by omega)).mono ?_
  rintro e u' w4 ⟨rfl, rfl, hw4⟩
  have hB4 : w4.heap[w.heap.size]? = some (.cells (inC inZ) 24 (0, 0)) := by rw [hw4, hother (by omega)]; exact set10_heap hz
  have hC4 : w4.heap[w.heap.size + 1]? = some (.cells #[.int .i64 11] 25 (0, 0)) := by
    rw [hw4]
    exact hset (o := 0) (x := .int .i64 11) ((set10_other (i := inZ) (by omega)).trans he)
  have hb4 : Below w.heap.size w w4 := by rw [hw4]; exact bel_set (set10_below hbw (Nat.le_refl _)) (by omega)
  have b0 : w4.cell? ⟨w.heap.size, 0, none⟩ = some (.int .i64 0) := cel hB4
  have b1 : w4.cell? ⟨w.heap.size, 1, none⟩ = some (.int .i64 0) := cel hB4
  have b2 : w4.cell? ⟨w.heap.size, 2, none⟩ = some (.int .i64 0) := cel hB4
  have b3 : w4.cell? ⟨w.heap.size, 3, none⟩ = some (.int .i64 0) := cel hB4
  have b4 : w4.cell? ⟨w.heap.size, 4, none⟩ = some (.int .i64 0) := cel hB4
  have b5 : w4.cell? ⟨w.heap.size, 5, none⟩ = some (.int .i64 0) := cel hB4
  have b6 : w4.cell? ⟨w.heap.size, 6, none⟩ = some (.int .u64 0) := cel hB4
  have b7 : w4.cell? ⟨w.heap.size, 7, none⟩ = some (.int .i64 0) := cel hB4
  have b8 : w4.cell? ⟨w.heap.size, 8, none⟩ = some (.int .i64 0) := cel hB4
  have b9 : w4.cell? ⟨w.heap.size, 9, none⟩ = some (.int .i64 0) := cel hB4
  have d0 : w4.cell? ⟨w.heap.size + 1, 0, none⟩ = some (.int .i64 11) := cel hC4
  simp [Leaves, settle, results, Tryd.results33, go_sem, b0, b1, b2, b3, b4, b5, b6, b7, b8, b9, d0]
  exact ⟨rfl, hb4⟩

set_option maxRecDepth 100000 in
set_option maxHeartbeats 4000000 in
theorem CDecode_yes (x : Nat) (hx : x < 4294967296) (w : World) (hw : Tab6 w) (h : ¬ noI x) (hI : isI (readW x) = true) : Calls Tryd.prog 33 #[.int .u32 x] w (RetB (out2 (readW x, 0)) w) := by
  have hmf : ∀ (fn : Fn) (first cap : Array Value) (w : World), (Instr.makeFunc fn first cap).run Tryd.prog w = .ok (.func fn first cap) w := fun _ _ _ _ => rfl
  have hZ : ∀ w, (zeroValue 24).run Tryd.prog w = .ok (.agg (inC inZ)) w := fun w => by kernel_rfl
  have hE : ∀ w, (zeroValue 25).run Tryd.prog w = .ok (.int .i64 0) w := fun w => by kernel_rfl
  have HT := Lib.hid hw
  have HW : Hid (∀ w, Tab6 w → Calls Tryd.prog 47 #[.int .u32 x] w (RetB (inV (readW x)) w)) := Lib.hid fun w hw => winst_yes x hx w hw h
  have HIs : Hid (∀ w, Tab6 w → Calls Tryd.prog 9 #[inV (readW x)] w (RetB (.bool true) w)) := Lib.hid fun w hw => by
    have := InstIs_any (readW x) w hw.1 (readW_inB x hx)
    rwa [hI] at this
  have HB2 : Hid (Below w.heap.size w ((w.alloc (.cells (inC inZ) 24)).alloc (.cells #[.int .i64 0] 25))) := Lib.hid (bel_alloc (bel_alloc (Below.refl _ _) _) _)
  clear hw h hI
  generalize readW x = r at *
  obtain ⟨o, d, n, m, a, xx, k, hh, t, c⟩ := r
  go_enter_defers Tryd.func33, Tryd.ntmps33
  go_wp2_with (first
    | (go_at_call 47; ((with_reducible refine (HW.out _ (HT.out.below HB2.out)).mono ?_); rintro e w2 ⟨rfl, hb⟩; obtain ⟨hz, he, hbw⟩ := res_blocks hb; clear hb; have z0 : w2.cell? ⟨w.heap.size, 0, none⟩ = some (.int .i64 0) := cel hz; have y0 : w2.frozen? ⟨w.heap.size, 0, none⟩ = false := frz hz; have z1 : w2.cell? ⟨w.heap.size, 1, none⟩ = some (.int .i64 0) := cel hz; have y1 : w2.frozen? ⟨w.heap.size, 1, none⟩ = false := frz hz; have z2 : w2.cell? ⟨w.heap.size, 2, none⟩ = some (.int .i64 0) := cel hz; have y2 : w2.frozen? ⟨w.heap.size, 2, none⟩ = false := frz hz; have z3 : w2.cell? ⟨w.heap.size, 3, none⟩ = some (.int .i64 0) := cel hz; have y3 : w2.frozen? ⟨w.heap.size, 3, none⟩ = false := frz hz; have z4 : w2.cell? ⟨w.heap.size, 4, none⟩ = some (.int .i64 0) := cel hz; have y4 : w2.frozen? ⟨w.heap.size, 4, none⟩ = false := frz hz; have z5 : w2.cell? ⟨w.heap.size, 5, none⟩ = some (.int .i64 0) := cel hz; have y5 : w2.frozen? ⟨w.heap.size, 5, none⟩ = false := frz hz; have z6 : w2.cell? ⟨w.heap.size, 6, none⟩ = some (.int .u64 0) := cel hz; have y6 : w2.frozen? ⟨w.heap.size, 6, none⟩ = false := frz hz; have z7 : w2.cell? ⟨w.heap.size, 7, none⟩ = some (.int .i64 0) := cel hz; have y7 : w2.frozen? ⟨w.heap.size, 7, none⟩ = false := frz hz; have z8 : w2.cell? ⟨w.heap.size, 8, none⟩ = some (.int .i64 0) := cel hz; have y8 : w2.frozen? ⟨w.heap.size, 8, none⟩ = false := frz hz; have z9 : w2.cell? ⟨w.heap.size, 9, none⟩ = some (.int .i64 0) := cel hz; have y9 : w2.frozen? ⟨w.heap.size, 9, none⟩ = false := frz hz; have hz3 := set10_heap (i := ⟨o, d, n, m, a, xx, k, hh, t, c⟩) hz; have he3 := (set10_other (w := w2) (B := w.heap.size) (c := w.heap.size + 1) (i := ⟨o, d, n, m, a, xx, k, hh, t, c⟩) (by omega)).trans he; have hbw3 := set10_below (i := ⟨o, d, n, m, a, xx, k, hh, t, c⟩) hbw (Nat.le_refl _)))
    | (go_at_call 9; ((with_reducible refine (HIs.out _ (HT.out.below hbw3)).mono ?_); rintro e w3 ⟨rfl, hb⟩; have hlt : w.heap.size + 1 < (set10 w2 w.heap.size ⟨o, d, n, m, a, xx, k, hh, t, c⟩).heap.size := (Array.getElem?_eq_some_iff.1 he3).1; replace hz := (hb.block w.heap.size (by omega)).trans hz3; replace he := (hb.block (w.heap.size + 1) hlt).trans he3; replace hbw := hbw3.trans (hb.mono hbw3.size); clear hb hz3 he3 hbw3 hlt; have g0 : w3.cell? ⟨w.heap.size, 0, none⟩ = some (.int .i64 o) := cel hz; have l0 : w3.frozen? ⟨w.heap.size, 0, none⟩ = false := frz hz; have g1 : w3.cell? ⟨w.heap.size, 1, none⟩ = some (.int .i64 d) := cel hz; have l1 : w3.frozen? ⟨w.heap.size, 1, none⟩ = false := frz hz; have g2 : w3.cell? ⟨w.heap.size, 2, none⟩ = some (.int .i64 n) := cel hz; have l2 : w3.frozen? ⟨w.heap.size, 2, none⟩ = false := frz hz; have g3 : w3.cell? ⟨w.heap.size, 3, none⟩ = some (.int .i64 m) := cel hz; have l3 : w3.frozen? ⟨w.heap.size, 3, none⟩ = false := frz hz; have g4 : w3.cell? ⟨w.heap.size, 4, none⟩ = some (.int .i64 a) := cel hz; have l4 : w3.frozen? ⟨w.heap.size, 4, none⟩ = false := frz hz; have g5 : w3.cell? ⟨w.heap.size, 5, none⟩ = some (.int .i64 xx) := cel hz; have l5 : w3.frozen? ⟨w.heap.size, 5, none⟩ = false := frz hz; have g6 : w3.cell? ⟨w.heap.size, 6, none⟩ = some (.int .u64 k) := cel hz; have l6 : w3.frozen? ⟨w.heap.size, 6, none⟩ = false := frz hz; have g7 : w3.cell? ⟨w.heap.size, 7, none⟩ = some (.int .i64 hh) := cel hz; have l7 : w3.frozen? ⟨w.heap.size, 7, none⟩ = false := frz hz; have g8 : w3.cell? ⟨w.heap.size, 8, none⟩ = some (.int .i64 t) := cel hz; have l8 : w3.frozen? ⟨w.heap.size, 8, none⟩ = false := frz hz; have g9 : w3.cell? ⟨w.heap.size, 9, none⟩ = some (.int .i64 c) := cel hz; have l9 : w3.frozen? ⟨w.heap.size, 9, none⟩ = false := frz hz; have g10 : w3.cell? ⟨w.heap.size + 1, 0, none⟩ = some (.int .i64 0) := cel he; have l10 : w3.frozen? ⟨w.heap.size + 1, 0, none⟩ = false := frz he)))
  clear z0 z1 z2 z3 z4 z5 z6 z7 z8 z9 y0 y1 y2 y3 y4 y5 y6 y7 y8 y9 g0 g1 g2 g3 g4 g5 g6 g7 g8 g9 g10 l0 l1 l2 l3 l4 l5 l6 l7 l8 l9 l10
  have hB5 : ((set10 w3 w.heap.size ⟨o, d, n, m, a, xx, k, hh, t, c⟩).setCell ⟨w.heap.size + 1, 0, none⟩ (.int .i64 0)).heap[w.heap.size]? = some (.cells (inC ⟨o, d, n, m, a, xx, k, hh, t, c⟩) 24 (0, 0)) := by rw [hother (by omega)]; exact set10_heap hz
  have hC5 : ((set10 w3 w.heap.size ⟨o, d, n, m, a, xx, k, hh, t, c⟩).setCell ⟨w.heap.size + 1, 0, none⟩ (.int .i64 0)).heap[w.heap.size + 1]? = some (.cells #[.int .i64 0] 25 (0, 0)) :=
    hset (o := 0) (x := .int .i64 0) ((set10_other (i := ⟨o, d, n, m, a, xx, k, hh, t, c⟩) (by omega)).trans he)
  have hb5 : Below w.heap.size w ((set10 w3 w.heap.size ⟨o, d, n, m, a, xx, k, hh, t, c⟩).setCell ⟨w.heap.size + 1, 0, none⟩ (.int .i64 0)) := bel_set (set10_below hbw (Nat.le_refl _)) (by omega)
  generalize ((set10 w3 w.heap.size ⟨o, d, n, m, a, xx, k, hh, t, c⟩).setCell ⟨w.heap.size + 1, 0, none⟩ (.int .i64 0)) = w5 at *
  refine leaves_cons (f := 46) (args := #[.pointer (some ⟨w.heap.size, 0, none⟩), .pointer (some ⟨w.heap.size + 1, 0, none⟩)]) (by simp) (by simp [go_sem]) ?_
  refine (catch_idle w.heap.size (w.heap.size + 1) _).mono ?_
  rintro e u' w4 ⟨rfl, rfl, hw4⟩
  rw [← hw4] at hB5 hC5 hb5
  have hB4 := hB5
  have hC4 := hC5
  have hb4 := hb5
  have b0 : w4.cell? ⟨w.heap.size, 0, none⟩ = some (.int .i64 o) := cel hB4
  have b1 : w4.cell? ⟨w.heap.size, 1, none⟩ = some (.int .i64 d) := cel hB4
  have b2 : w4.cell? ⟨w.heap.size, 2, none⟩ = some (.int .i64 n) := cel hB4
  have b3 : w4.cell? ⟨w.heap.size, 3, none⟩ = some (.int .i64 m) := cel hB4
  have b4 : w4.cell? ⟨w.heap.size, 4, none⟩ = some (.int .i64 a) := cel hB4
  have b5 : w4.cell? ⟨w.heap.size, 5, none⟩ = some (.int .i64 xx) := cel hB4
  have b6 : w4.cell? ⟨w.heap.size, 6, none⟩ = some (.int .u64 k) := cel hB4
  have b7 : w4.cell? ⟨w.heap.size, 7, none⟩ = some (.int .i64 hh) := cel hB4
  have b8 : w4.cell? ⟨w.heap.size, 8, none⟩ = some (.int .i64 t) := cel hB4
  have b9 : w4.cell? ⟨w.heap.size, 9, none⟩ = some (.int .i64 c) := cel hB4
  have d0 : w4.cell? ⟨w.heap.size + 1, 0, none⟩ = some (.int .i64 0) := cel hC4
  simp [Leaves, settle, results, Tryd.results33, go_sem, b0, b1, b2, b3, b4, b5, b6, b7, b8, b9, d0]
  exact ⟨rfl, hb4⟩

theorem CDecode_any (x : Nat) (hx : x < 4294967296) (w : World) (hw : Tab6 w) : Calls Tryd.prog 33 #[.int .u32 x] w (RetB (out2 (dI x)) w) := by
  unfold dI
  rcases noI_or x with h | h
  · rw [noI_not h, if_neg (by decide)]
    exact CDecode_no x hx w hw h
  · cases hI : isI (readW x)
    · rw [if_neg (by decide)]
      exact CDecode_wrong x hx w hw h hI
    · rw [if_pos rfl]
      exact CDecode_yes x hx w hw h hI
end Go.Proofs.YtkcgnmicaigjfaaDoor
