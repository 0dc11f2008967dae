/- The reference's values: what an instruction has in its fields. The reference's Opcode. The reference's Encode. -/
import Derived.Test.YtdeigbdcipkaaaaGreatDoorFA
import Derived.Test.YtdeigbdcipkaaaaGreatDoorCE
import Derived.Deep.QuietTactic
import Derived.BigQuiet
namespace Go.Proofs.YtdeigbdcipkaaaaGreatDoor
set_option linter.unusedVariables false
set_option linter.unusedSimpArgs false
open Go.RowKit

def encU (x : Int) : List Value := [.int .u32 x]
theorem encU_len : ∀ x, (encU x).length = 1 := fun _ => rfl
/-- A row of numbers is returned, made anew. -/
def RetU (l : List Int) (w : World) (e : Ending) (w' : World) : Prop :=
  ∃ a c, e = .returned (.slice a l.length c) ∧ SL encU 1 w' w'.heap.size a l.length l ∧ Below w.heap.size w w'
theorem retU_lit {w w1 : World} (hb : Below w.heap.size w w1) (T : TypeId) (l : List Int) (cs : Array Value) (n c : Nat) (hcs : cs.toList = l.flatMap encU) (hn : n = l.length) : RetU l w (.returned (.slice (some ⟨w1.heap.size, 0, none⟩) n c)) (w1.alloc (.cells cs T)) := by
  subst hn
  exact ⟨_, _, rfl, (SL.lit w1 T l encU_len (by decide) cs hcs _ rfl).up (by simp), hb.alloc hb.size _⟩
def valF (s : Nat) (i : In) : List Int := (fldS s i).map fun f => f.2.2

set_option maxRecDepth 100000 in
set_option maxHeartbeats 4000000 in
theorem rvals1 (o d n m a x k h t c : Int) (w : World) (hs : shapeI o = 1) (hI : isI ⟨o, d, n, m, a, x, k, h, t, c⟩ = true) (hi : InB ⟨o, d, n, m, a, x, k, h, t, c⟩) :
    Calls Tryz.prog 47 #[inV ⟨o, d, n, m, a, x, k, h, t, c⟩] w (RetU (valF 1 ⟨o, d, n, m, a, x, k, h, t, c⟩) w) := by
  have hf := facts1 hs hI
  obtain rfl : n = 0 := by omega
  obtain rfl : m = 0 := by omega
  obtain rfl : a = 0 := by omega
  obtain rfl : k = 0 := by omega
  obtain rfl : h = 0 := by omega
  obtain rfl : c = 0 := by omega
  have HSh : Hid (∀ w, Calls Tryz.prog 42 #[.int .i64 o] w (RetB (.int .i64 1) w)) := Lib.hid fun w => by have := RShape_any o w; rwa [hs] at this
  have HA := Lib.hid (Ten.made w ⟨o, d, 0, 0, 0, x, 0, 0, t, 0⟩ 44)
  have tq : t.tdiv 16 = t / 16 := Int.tdiv_eq_ediv_of_nonneg (by omega)
  have TQ := Lib.hid tq
  clear tq
  clear hs hI hi
  go_enter Tryz.func47, Tryz.ntmps47
  go_wp2_with (first | (go_at_call 42; ((with_reducible refine (HSh.out _).mono ?_); rintro e w1 ⟨rfl, hb⟩; obtain ⟨a0, a1, a2, a3, a4, a5, a6, a7, a8, a9⟩ := HA.out.below hb (by simp); have HB := Lib.hid (after (bel_alloc (Below.refl w.heap.size w) _) hb); clear hb)))
  go_ret
  refine retU_lit HB.out _ _ _ _ _ ?_ rfl
  simp [valF, fldS, encU, TQ.out]

set_option maxRecDepth 100000 in
set_option maxHeartbeats 4000000 in
theorem rvals2 (o d n m a x k h t c : Int) (w : World) (hs : shapeI o = 2) (hI : isI ⟨o, d, n, m, a, x, k, h, t, c⟩ = true) (hi : InB ⟨o, d, n, m, a, x, k, h, t, c⟩) :
    Calls Tryz.prog 47 #[inV ⟨o, d, n, m, a, x, k, h, t, c⟩] w (RetU (valF 2 ⟨o, d, n, m, a, x, k, h, t, c⟩) w) := by
  have hf := facts2 hs hI
  obtain rfl : m = 0 := by omega
  obtain rfl : a = 0 := by omega
  obtain rfl : k = 0 := by omega
  obtain rfl : h = 0 := by omega
  obtain rfl : c = 0 := by omega
  have HSh : Hid (∀ w, Calls Tryz.prog 42 #[.int .i64 o] w (RetB (.int .i64 2) w)) := Lib.hid fun w => by have := RShape_any o w; rwa [hs] at this
  have HA := Lib.hid (Ten.made w ⟨o, d, n, 0, 0, x, 0, 0, t, 0⟩ 44)
  have tq : t.tdiv 12 = t / 12 := Int.tdiv_eq_ediv_of_nonneg (by omega)
  have TQ := Lib.hid tq
  clear tq
  clear hs hI hi
  go_enter Tryz.func47, Tryz.ntmps47
  go_wp2_with (first | (go_at_call 42; ((with_reducible refine (HSh.out _).mono ?_); rintro e w1 ⟨rfl, hb⟩; obtain ⟨a0, a1, a2, a3, a4, a5, a6, a7, a8, a9⟩ := HA.out.below hb (by simp); have HB := Lib.hid (after (bel_alloc (Below.refl w.heap.size w) _) hb); clear hb)))
  go_ret
  refine retU_lit HB.out _ _ _ _ _ ?_ rfl
  simp [valF, fldS, encU, TQ.out]

set_option maxRecDepth 100000 in
set_option maxHeartbeats 4000000 in
theorem rvals3 (o d n m a x k h t c : Int) (w : World) (hs : shapeI o = 3) (hI : isI ⟨o, d, n, m, a, x, k, h, t, c⟩ = true) (hi : InB ⟨o, d, n, m, a, x, k, h, t, c⟩) :
    Calls Tryz.prog 47 #[inV ⟨o, d, n, m, a, x, k, h, t, c⟩] w (RetU (valF 3 ⟨o, d, n, m, a, x, k, h, t, c⟩) w) := by
  have hf := facts3 hs hI
  obtain rfl : m = 0 := by omega
  obtain rfl : a = 0 := by omega
  obtain rfl : x = 0 := by omega
  obtain rfl : h = 0 := by omega
  obtain rfl : t = 0 := by omega
  obtain rfl : c = 0 := by omega
  have HSh : Hid (∀ w, Calls Tryz.prog 42 #[.int .i64 o] w (RetB (.int .i64 3) w)) := Lib.hid fun w => by have := RShape_any o w; rwa [hs] at this
  have HA := Lib.hid (Ten.made w ⟨o, d, n, 0, 0, 0, k, 0, 0, 0⟩ 44)
  have hk0 := hi.mask
  simp only [] at hk0
  obtain ⟨kn, rfl⟩ := Int.eq_ofNat_of_zero_le hk0.1
  obtain ⟨e1, e2, e3, he, r1, r2, r3, r4, r5, r6, -⟩ := enc_pat (k := kn) hf.2 (by omega)
  have HE := Lib.hid he
  have HEnc : Hid (∀ w, Calls Tryz.prog 70 #[.int .u64 kn] w (Ret (.tuple #[.int .i64 e1, .int .i64 e2, .int .i64 e3, .int .i64 0]) w)) := Lib.hid fun w => by
    have := refEncode_any kn w (by omega)
    rwa [he] at this
  clear he hk0
  clear hs hI hi
  go_enter Tryz.func47, Tryz.ntmps47
  go_wp2_with (first | (go_at_call 42; ((with_reducible refine (HSh.out _).mono ?_); rintro e w1 ⟨rfl, hb⟩; obtain ⟨a0, a1, a2, a3, a4, a5, a6, a7, a8, a9⟩ := HA.out.below hb (by simp); have HB := Lib.hid (after (bel_alloc (Below.refl w.heap.size w) _) hb); clear hb)) | (go_at_call 70; ((with_reducible refine (HEnc.out _).mono ?_); rintro e w' ⟨rfl, rfl⟩)))
  go_ret
  refine retU_lit HB.out _ _ _ _ _ ?_ rfl
  simp [valF, fldS, encU, HE.out]

set_option maxRecDepth 100000 in
set_option maxHeartbeats 4000000 in
theorem rvals4 (o d n m a x k h t c : Int) (w : World) (hs : shapeI o = 4) (hI : isI ⟨o, d, n, m, a, x, k, h, t, c⟩ = true) (hi : InB ⟨o, d, n, m, a, x, k, h, t, c⟩) :
    Calls Tryz.prog 47 #[inV ⟨o, d, n, m, a, x, k, h, t, c⟩] w (RetU (valF 4 ⟨o, d, n, m, a, x, k, h, t, c⟩) w) := by
  have hf := facts4 hs hI
  obtain rfl : a = 0 := by omega
  obtain rfl : x = 0 := by omega
  obtain rfl : k = 0 := by omega
  obtain rfl : c = 0 := by omega
  have HSh : Hid (∀ w, Calls Tryz.prog 42 #[.int .i64 o] w (RetB (.int .i64 4) w)) := Lib.hid fun w => by have := RShape_any o w; rwa [hs] at this
  have HA := Lib.hid (Ten.made w ⟨o, d, n, m, 0, 0, 0, h, t, 0⟩ 44)
  clear hs hI hi
  go_enter Tryz.func47, Tryz.ntmps47
  go_wp2_with (first | (go_at_call 42; ((with_reducible refine (HSh.out _).mono ?_); rintro e w1 ⟨rfl, hb⟩; obtain ⟨a0, a1, a2, a3, a4, a5, a6, a7, a8, a9⟩ := HA.out.below hb (by simp); have HB := Lib.hid (after (bel_alloc (Below.refl w.heap.size w) _) hb); clear hb)))
  go_ret
  refine retU_lit HB.out _ _ _ _ _ ?_ rfl
  simp [valF, fldS, encU]

set_option maxRecDepth 100000 in
set_option maxHeartbeats 4000000 in
theorem rvals5 (o d n m a x k h t c : Int) (w : World) (hs : shapeI o = 5) (hI : isI ⟨o, d, n, m, a, x, k, h, t, c⟩ = true) (hi : InB ⟨o, d, n, m, a, x, k, h, t, c⟩) :
    Calls Tryz.prog 47 #[inV ⟨o, d, n, m, a, x, k, h, t, c⟩] w (RetU (valF 5 ⟨o, d, n, m, a, x, k, h, t, c⟩) w) := by
  have hf := facts5 hs hI
  obtain rfl : a = 0 := by omega
  obtain rfl : x = 0 := by omega
  obtain rfl : k = 0 := by omega
  obtain rfl : c = 0 := by omega
  have HSh : Hid (∀ w, Calls Tryz.prog 42 #[.int .i64 o] w (RetB (.int .i64 5) w)) := Lib.hid fun w => by have := RShape_any o w; rwa [hs] at this
  have HA := Lib.hid (Ten.made w ⟨o, d, n, m, 0, 0, 0, h, t, 0⟩ 44)
  clear hs hI hi
  go_enter Tryz.func47, Tryz.ntmps47
  go_wp2_with (first | (go_at_call 42; ((with_reducible refine (HSh.out _).mono ?_); rintro e w1 ⟨rfl, hb⟩; obtain ⟨a0, a1, a2, a3, a4, a5, a6, a7, a8, a9⟩ := HA.out.below hb (by simp); have HB := Lib.hid (after (bel_alloc (Below.refl w.heap.size w) _) hb); clear hb)))
  go_ret
  refine retU_lit HB.out _ _ _ _ _ ?_ rfl
  simp [valF, fldS, encU]

set_option maxRecDepth 100000 in
set_option maxHeartbeats 4000000 in
theorem rvals6 (o d n m a x k h t c : Int) (w : World) (hs : shapeI o = 6) (hI : isI ⟨o, d, n, m, a, x, k, h, t, c⟩ = true) (hi : InB ⟨o, d, n, m, a, x, k, h, t, c⟩) :
    Calls Tryz.prog 47 #[inV ⟨o, d, n, m, a, x, k, h, t, c⟩] w (RetU (valF 6 ⟨o, d, n, m, a, x, k, h, t, c⟩) w) := by
  have hf := facts6 hs hI
  obtain rfl : x = 0 := by omega
  obtain rfl : k = 0 := by omega
  obtain rfl : h = 0 := by omega
  obtain rfl : t = 0 := by omega
  obtain rfl : c = 0 := by omega
  have HSh : Hid (∀ w, Calls Tryz.prog 42 #[.int .i64 o] w (RetB (.int .i64 6) w)) := Lib.hid fun w => by have := RShape_any o w; rwa [hs] at this
  have HA := Lib.hid (Ten.made w ⟨o, d, n, m, a, 0, 0, 0, 0, 0⟩ 44)
  clear hs hI hi
  go_enter Tryz.func47, Tryz.ntmps47
  go_wp2_with (first | (go_at_call 42; ((with_reducible refine (HSh.out _).mono ?_); rintro e w1 ⟨rfl, hb⟩; obtain ⟨a0, a1, a2, a3, a4, a5, a6, a7, a8, a9⟩ := HA.out.below hb (by simp); have HB := Lib.hid (after (bel_alloc (Below.refl w.heap.size w) _) hb); clear hb)))
  go_ret
  refine retU_lit HB.out _ _ _ _ _ ?_ rfl
  simp [valF, fldS, encU]

set_option maxRecDepth 100000 in
set_option maxHeartbeats 4000000 in
theorem rvals7 (o d n m a x k h t c : Int) (w : World) (hs : shapeI o = 7) (hI : isI ⟨o, d, n, m, a, x, k, h, t, c⟩ = true) (hi : InB ⟨o, d, n, m, a, x, k, h, t, c⟩) :
    Calls Tryz.prog 47 #[inV ⟨o, d, n, m, a, x, k, h, t, c⟩] w (RetU (valF 7 ⟨o, d, n, m, a, x, k, h, t, c⟩) w) := by
  have hf := facts7 hs hI
  obtain rfl : m = 0 := by omega
  obtain rfl : a = 0 := by omega
  obtain rfl : k = 0 := by omega
  obtain rfl : h = 0 := by omega
  obtain rfl : t = 0 := by omega
  obtain rfl : c = 0 := by omega
  have HSh : Hid (∀ w, Calls Tryz.prog 42 #[.int .i64 o] w (RetB (.int .i64 7) w)) := Lib.hid fun w => by have := RShape_any o w; rwa [hs] at this
  have HA := Lib.hid (Ten.made w ⟨o, d, n, 0, 0, x, 0, 0, 0, 0⟩ 44)
  have tq : x.tdiv 8 = x / 8 := Int.tdiv_eq_ediv_of_nonneg (by omega)
  have TQ := Lib.hid tq
  clear tq
  clear hs hI hi
  go_enter Tryz.func47, Tryz.ntmps47
  go_wp2_with (first | (go_at_call 42; ((with_reducible refine (HSh.out _).mono ?_); rintro e w1 ⟨rfl, hb⟩; obtain ⟨a0, a1, a2, a3, a4, a5, a6, a7, a8, a9⟩ := HA.out.below hb (by simp); have HB := Lib.hid (after (bel_alloc (Below.refl w.heap.size w) _) hb); clear hb)))
  go_ret
  refine retU_lit HB.out _ _ _ _ _ ?_ rfl
  simp [valF, fldS, encU, TQ.out]

set_option maxRecDepth 100000 in
set_option maxHeartbeats 4000000 in
theorem rvals8 (o d n m a x k h t c : Int) (w : World) (hs : shapeI o = 8) (hI : isI ⟨o, d, n, m, a, x, k, h, t, c⟩ = true) (hi : InB ⟨o, d, n, m, a, x, k, h, t, c⟩) :
    Calls Tryz.prog 47 #[inV ⟨o, d, n, m, a, x, k, h, t, c⟩] w (RetU (valF 8 ⟨o, d, n, m, a, x, k, h, t, c⟩) w) := by
  have hf := facts8 hs hI
  obtain rfl : m = 0 := by omega
  obtain rfl : a = 0 := by omega
  obtain rfl : k = 0 := by omega
  obtain rfl : h = 0 := by omega
  obtain rfl : t = 0 := by omega
  obtain rfl : c = 0 := by omega
  have HSh : Hid (∀ w, Calls Tryz.prog 42 #[.int .i64 o] w (RetB (.int .i64 8) w)) := Lib.hid fun w => by have := RShape_any o w; rwa [hs] at this
  have HA := Lib.hid (Ten.made w ⟨o, d, n, 0, 0, x, 0, 0, 0, 0⟩ 44)
  clear hs hI hi
  go_enter Tryz.func47, Tryz.ntmps47
  go_wp2_with (first | (go_at_call 42; ((with_reducible refine (HSh.out _).mono ?_); rintro e w1 ⟨rfl, hb⟩; obtain ⟨a0, a1, a2, a3, a4, a5, a6, a7, a8, a9⟩ := HA.out.below hb (by simp); have HB := Lib.hid (after (bel_alloc (Below.refl w.heap.size w) _) hb); clear hb)))
  go_ret
  refine retU_lit HB.out _ _ _ _ _ ?_ rfl
  simp [valF, fldS, encU]

set_option maxRecDepth 100000 in
set_option maxHeartbeats 4000000 in
theorem rvals9 (o d n m a x k h t c : Int) (w : World) (hs : shapeI o = 9) (hI : isI ⟨o, d, n, m, a, x, k, h, t, c⟩ = true) (hi : InB ⟨o, d, n, m, a, x, k, h, t, c⟩) :
    Calls Tryz.prog 47 #[inV ⟨o, d, n, m, a, x, k, h, t, c⟩] w (RetU (valF 9 ⟨o, d, n, m, a, x, k, h, t, c⟩) w) := by
  have hf := facts9 hs hI
  obtain rfl : n = 0 := by omega
  obtain rfl : m = 0 := by omega
  obtain rfl : a = 0 := by omega
  obtain rfl : k = 0 := by omega
  obtain rfl : h = 0 := by omega
  obtain rfl : t = 0 := by omega
  obtain rfl : c = 0 := by omega
  have HSh : Hid (∀ w, Calls Tryz.prog 42 #[.int .i64 o] w (RetB (.int .i64 9) w)) := Lib.hid fun w => by have := RShape_any o w; rwa [hs] at this
  have HA := Lib.hid (Ten.made w ⟨o, d, 0, 0, 0, x, 0, 0, 0, 0⟩ 44)
  have hx := hi.imm
  simp only [i64B] at hx
  have hxb : -9223372036854775808 ≤ x.tdiv 4 ∧ x.tdiv 4 ≤ 9223372036854775807 := by
    obtain ⟨y, hy⟩ : ∃ y, x = 4 * y := Int.dvd_of_tmod_eq_zero (by simp only [hf])
    have := div_mul y 4 (by decide)
    rw [← hy] at this
    omega
  have HP : Hid (∀ w, Calls Tryz.prog 71 #[.int .i64 (x.tdiv 4), .int .i64 19] w (Ret (.tuple #[.int .u32 (pck (x.tdiv 4) 19).1, .int .i64 (pck (x.tdiv 4) 19).2]) w)) := Lib.hid fun w => refPack_any _ _ w (by omega) (by omega)
  have HF : Hid (fldS 9 ⟨o, d, 0, 0, 0, x, 0, 0, 0, 0⟩ = [(0, 5, d), (5, 19, (pck (x.tdiv 4) 19).1)]) := Lib.hid rfl
  generalize (pck (x.tdiv 4) 19).1 = p at *
  generalize (pck (x.tdiv 4) 19).2 = pe at *
  clear hx
  clear hs hI hi
  go_enter Tryz.func47, Tryz.ntmps47
  go_wp2_with (first | (go_at_call 42; ((with_reducible refine (HSh.out _).mono ?_); rintro e w1 ⟨rfl, hb⟩; obtain ⟨a0, a1, a2, a3, a4, a5, a6, a7, a8, a9⟩ := HA.out.below hb (by simp); have HB := Lib.hid (after (bel_alloc (Below.refl w.heap.size w) _) hb); clear hb)) | (go_at_call 71; ((with_reducible refine (HP.out _).mono ?_); rintro e w' ⟨rfl, rfl⟩)))
  go_ret
  refine retU_lit HB.out _ _ _ _ _ ?_ rfl
  simp [valF, HF.out, encU]

set_option maxRecDepth 100000 in
set_option maxHeartbeats 4000000 in
theorem rvals10 (o d n m a x k h t c : Int) (w : World) (hs : shapeI o = 10) (hI : isI ⟨o, d, n, m, a, x, k, h, t, c⟩ = true) (hi : InB ⟨o, d, n, m, a, x, k, h, t, c⟩) :
    Calls Tryz.prog 47 #[inV ⟨o, d, n, m, a, x, k, h, t, c⟩] w (RetU (valF 10 ⟨o, d, n, m, a, x, k, h, t, c⟩) w) := by
  have hf := facts10 hs hI
  obtain rfl : n = 0 := by omega
  obtain rfl : m = 0 := by omega
  obtain rfl : a = 0 := by omega
  obtain rfl : k = 0 := by omega
  obtain rfl : h = 0 := by omega
  obtain rfl : t = 0 := by omega
  obtain rfl : c = 0 := by omega
  have HSh : Hid (∀ w, Calls Tryz.prog 42 #[.int .i64 o] w (RetB (.int .i64 10) w)) := Lib.hid fun w => by have := RShape_any o w; rwa [hs] at this
  have HA := Lib.hid (Ten.made w ⟨o, d, 0, 0, 0, x, 0, 0, 0, 0⟩ 44)
  have hx := hi.imm
  simp only [i64B] at hx
  have HP : Hid (∀ w, Calls Tryz.prog 71 #[.int .i64 x, .int .i64 21] w (Ret (.tuple #[.int .u32 (pck x 21).1, .int .i64 (pck x 21).2]) w)) := Lib.hid fun w => refPack_any _ _ w (by omega) (by omega)
  have hpb : 0 ≤ (pck x 21).1 ∧ (pck x 21).1 < 4294967296 := by
    have h3 := pck_lit (v := x) (n := 21) (by decide) (by decide) (by simp only [Nat.reduceSub, Int.reducePow]; omega) (by simp only [Nat.reduceSub, Int.reducePow]; omega)
    simp only [Int.reducePow, Int.cast_ofNat_Int] at h3
    omega
  have HF : Hid (fldS 10 ⟨o, d, 0, 0, 0, x, 0, 0, 0, 0⟩ = [(0, 5, d), (5, 19, ((pck x 21).1 / 4)), (29, 2, ((pck x 21).1 % 4))]) := Lib.hid rfl
  generalize (pck x 21).1 = p at *
  generalize (pck x 21).2 = pe at *
  clear hx
  clear hs hI hi
  go_enter Tryz.func47, Tryz.ntmps47
  go_wp2_with (first | (go_at_call 42; ((with_reducible refine (HSh.out _).mono ?_); rintro e w1 ⟨rfl, hb⟩; obtain ⟨a0, a1, a2, a3, a4, a5, a6, a7, a8, a9⟩ := HA.out.below hb (by simp); have HB := Lib.hid (after (bel_alloc (Below.refl w.heap.size w) _) hb); clear hb)) | (go_at_call 71; ((with_reducible refine (HP.out _).mono ?_); rintro e w' ⟨rfl, rfl⟩)))
  go_ret
  refine retU_lit HB.out _ _ _ _ _ ?_ rfl
  simp [valF, HF.out, encU]

set_option maxRecDepth 100000 in
set_option maxHeartbeats 4000000 in
theorem rvals11 (o d n m a x k h t c : Int) (w : World) (hs : shapeI o = 11) (hI : isI ⟨o, d, n, m, a, x, k, h, t, c⟩ = true) (hi : InB ⟨o, d, n, m, a, x, k, h, t, c⟩) :
    Calls Tryz.prog 47 #[inV ⟨o, d, n, m, a, x, k, h, t, c⟩] w (RetU (valF 11 ⟨o, d, n, m, a, x, k, h, t, c⟩) w) := by
  have hf := facts11 hs hI
  obtain rfl : d = 0 := by omega
  obtain rfl : n = 0 := by omega
  obtain rfl : m = 0 := by omega
  obtain rfl : a = 0 := by omega
  obtain rfl : k = 0 := by omega
  obtain rfl : h = 0 := by omega
  obtain rfl : t = 0 := by omega
  obtain rfl : c = 0 := by omega
  have HSh : Hid (∀ w, Calls Tryz.prog 42 #[.int .i64 o] w (RetB (.int .i64 11) w)) := Lib.hid fun w => by have := RShape_any o w; rwa [hs] at this
  have HA := Lib.hid (Ten.made w ⟨o, 0, 0, 0, 0, x, 0, 0, 0, 0⟩ 44)
  have hx := hi.imm
  simp only [i64B] at hx
  have hxb : -9223372036854775808 ≤ x.tdiv 4 ∧ x.tdiv 4 ≤ 9223372036854775807 := by
    obtain ⟨y, hy⟩ : ∃ y, x = 4 * y := Int.dvd_of_tmod_eq_zero (by simp only [hf])
    have := div_mul y 4 (by decide)
    rw [← hy] at this
    omega
  have HP : Hid (∀ w, Calls Tryz.prog 71 #[.int .i64 (x.tdiv 4), .int .i64 26] w (Ret (.tuple #[.int .u32 (pck (x.tdiv 4) 26).1, .int .i64 (pck (x.tdiv 4) 26).2]) w)) := Lib.hid fun w => refPack_any _ _ w (by omega) (by omega)
  have HF : Hid (fldS 11 ⟨o, 0, 0, 0, 0, x, 0, 0, 0, 0⟩ = [(0, 26, (pck (x.tdiv 4) 26).1)]) := Lib.hid rfl
  generalize (pck (x.tdiv 4) 26).1 = p at *
  generalize (pck (x.tdiv 4) 26).2 = pe at *
  clear hx
  clear hs hI hi
  go_enter Tryz.func47, Tryz.ntmps47
  go_wp2_with (first | (go_at_call 42; ((with_reducible refine (HSh.out _).mono ?_); rintro e w1 ⟨rfl, hb⟩; obtain ⟨a0, a1, a2, a3, a4, a5, a6, a7, a8, a9⟩ := HA.out.below hb (by simp); have HB := Lib.hid (after (bel_alloc (Below.refl w.heap.size w) _) hb); clear hb)) | (go_at_call 71; ((with_reducible refine (HP.out _).mono ?_); rintro e w' ⟨rfl, rfl⟩)))
  go_ret
  refine retU_lit HB.out _ _ _ _ _ ?_ rfl
  simp [valF, HF.out, encU]

set_option maxRecDepth 100000 in
set_option maxHeartbeats 4000000 in
theorem rvals12 (o d n m a x k h t c : Int) (w : World) (hs : shapeI o = 12) (hI : isI ⟨o, d, n, m, a, x, k, h, t, c⟩ = true) (hi : InB ⟨o, d, n, m, a, x, k, h, t, c⟩) :
    Calls Tryz.prog 47 #[inV ⟨o, d, n, m, a, x, k, h, t, c⟩] w (RetU (valF 12 ⟨o, d, n, m, a, x, k, h, t, c⟩) w) := by
  have hf := facts12 hs hI
  obtain rfl : d = 0 := by omega
  obtain rfl : n = 0 := by omega
  obtain rfl : m = 0 := by omega
  obtain rfl : a = 0 := by omega
  obtain rfl : k = 0 := by omega
  obtain rfl : h = 0 := by omega
  obtain rfl : t = 0 := by omega
  have HSh : Hid (∀ w, Calls Tryz.prog 42 #[.int .i64 o] w (RetB (.int .i64 12) w)) := Lib.hid fun w => by have := RShape_any o w; rwa [hs] at this
  have HA := Lib.hid (Ten.made w ⟨o, 0, 0, 0, 0, x, 0, 0, 0, c⟩ 44)
  have hx := hi.imm
  simp only [i64B] at hx
  have hxb : -9223372036854775808 ≤ x.tdiv 4 ∧ x.tdiv 4 ≤ 9223372036854775807 := by
    obtain ⟨y, hy⟩ : ∃ y, x = 4 * y := Int.dvd_of_tmod_eq_zero (by simp only [hf])
    have := div_mul y 4 (by decide)
    rw [← hy] at this
    omega
  have HP : Hid (∀ w, Calls Tryz.prog 71 #[.int .i64 (x.tdiv 4), .int .i64 19] w (Ret (.tuple #[.int .u32 (pck (x.tdiv 4) 19).1, .int .i64 (pck (x.tdiv 4) 19).2]) w)) := Lib.hid fun w => refPack_any _ _ w (by omega) (by omega)
  have HF : Hid (fldS 12 ⟨o, 0, 0, 0, 0, x, 0, 0, 0, c⟩ = [(0, 4, c), (5, 19, (pck (x.tdiv 4) 19).1)]) := Lib.hid rfl
  generalize (pck (x.tdiv 4) 19).1 = p at *
  generalize (pck (x.tdiv 4) 19).2 = pe at *
  clear hx
  clear hs hI hi
  go_enter Tryz.func47, Tryz.ntmps47
  go_wp2_with (first | (go_at_call 42; ((with_reducible refine (HSh.out _).mono ?_); rintro e w1 ⟨rfl, hb⟩; obtain ⟨a0, a1, a2, a3, a4, a5, a6, a7, a8, a9⟩ := HA.out.below hb (by simp); have HB := Lib.hid (after (bel_alloc (Below.refl w.heap.size w) _) hb); clear hb)) | (go_at_call 71; ((with_reducible refine (HP.out _).mono ?_); rintro e w' ⟨rfl, rfl⟩)))
  go_ret
  refine retU_lit HB.out _ _ _ _ _ ?_ rfl
  simp [valF, HF.out, encU]

set_option maxRecDepth 100000 in
set_option maxHeartbeats 4000000 in
theorem rvals13 (o d n m a x k h t c : Int) (w : World) (hs : shapeI o = 13) (hI : isI ⟨o, d, n, m, a, x, k, h, t, c⟩ = true) (hi : InB ⟨o, d, n, m, a, x, k, h, t, c⟩) :
    Calls Tryz.prog 47 #[inV ⟨o, d, n, m, a, x, k, h, t, c⟩] w (RetU (valF 13 ⟨o, d, n, m, a, x, k, h, t, c⟩) w) := by
  have hf := facts13 hs hI
  obtain rfl : d = 0 := by omega
  obtain rfl : m = 0 := by omega
  obtain rfl : a = 0 := by omega
  obtain rfl : x = 0 := by omega
  obtain rfl : k = 0 := by omega
  obtain rfl : h = 0 := by omega
  obtain rfl : t = 0 := by omega
  obtain rfl : c = 0 := by omega
  have HSh : Hid (∀ w, Calls Tryz.prog 42 #[.int .i64 o] w (RetB (.int .i64 13) w)) := Lib.hid fun w => by have := RShape_any o w; rwa [hs] at this
  have HA := Lib.hid (Ten.made w ⟨o, 0, n, 0, 0, 0, 0, 0, 0, 0⟩ 44)
  clear hs hI hi
  go_enter Tryz.func47, Tryz.ntmps47
  go_wp2_with (first | (go_at_call 42; ((with_reducible refine (HSh.out _).mono ?_); rintro e w1 ⟨rfl, hb⟩; obtain ⟨a0, a1, a2, a3, a4, a5, a6, a7, a8, a9⟩ := HA.out.below hb (by simp); have HB := Lib.hid (after (bel_alloc (Below.refl w.heap.size w) _) hb); clear hb)))
  go_ret
  refine retU_lit HB.out _ _ _ _ _ ?_ rfl
  simp [valF, fldS, encU]

set_option maxRecDepth 100000 in
set_option maxHeartbeats 4000000 in
theorem rvals14 (o d n m a x k h t c : Int) (w : World) (hs : shapeI o = 14) (hI : isI ⟨o, d, n, m, a, x, k, h, t, c⟩ = true) (hi : InB ⟨o, d, n, m, a, x, k, h, t, c⟩) :
    Calls Tryz.prog 47 #[inV ⟨o, d, n, m, a, x, k, h, t, c⟩] w (RetU (valF 14 ⟨o, d, n, m, a, x, k, h, t, c⟩) w) := by
  have hf := facts14 hs hI
  obtain rfl : d = 0 := by omega
  obtain rfl : n = 0 := by omega
  obtain rfl : m = 0 := by omega
  obtain rfl : a = 0 := by omega
  obtain rfl : k = 0 := by omega
  obtain rfl : h = 0 := by omega
  obtain rfl : t = 0 := by omega
  obtain rfl : c = 0 := by omega
  have HSh : Hid (∀ w, Calls Tryz.prog 42 #[.int .i64 o] w (RetB (.int .i64 14) w)) := Lib.hid fun w => by have := RShape_any o w; rwa [hs] at this
  have HA := Lib.hid (Ten.made w ⟨o, 0, 0, 0, 0, x, 0, 0, 0, 0⟩ 44)
  clear hs hI hi
  go_enter Tryz.func47, Tryz.ntmps47
  go_wp2_with (first | (go_at_call 42; ((with_reducible refine (HSh.out _).mono ?_); rintro e w1 ⟨rfl, hb⟩; obtain ⟨a0, a1, a2, a3, a4, a5, a6, a7, a8, a9⟩ := HA.out.below hb (by simp); have HB := Lib.hid (after (bel_alloc (Below.refl w.heap.size w) _) hb); clear hb)))
  go_ret
  refine retU_lit HB.out _ _ _ _ _ ?_ rfl
  simp [valF, fldS, encU]

set_option maxRecDepth 100000 in
set_option maxHeartbeats 4000000 in
theorem rvals15 (o d n m a x k h t c : Int) (w : World) (hs : shapeI o = 15) (hI : isI ⟨o, d, n, m, a, x, k, h, t, c⟩ = true) (hi : InB ⟨o, d, n, m, a, x, k, h, t, c⟩) :
    Calls Tryz.prog 47 #[inV ⟨o, d, n, m, a, x, k, h, t, c⟩] w (RetU (valF 15 ⟨o, d, n, m, a, x, k, h, t, c⟩) w) := by
  have hf := facts15 hs hI
  obtain rfl : d = 0 := by omega
  obtain rfl : n = 0 := by omega
  obtain rfl : m = 0 := by omega
  obtain rfl : a = 0 := by omega
  obtain rfl : x = 0 := by omega
  obtain rfl : k = 0 := by omega
  obtain rfl : h = 0 := by omega
  obtain rfl : t = 0 := by omega
  obtain rfl : c = 0 := by omega
  have HSh : Hid (∀ w, Calls Tryz.prog 42 #[.int .i64 o] w (RetB (.int .i64 15) w)) := Lib.hid fun w => by have := RShape_any o w; rwa [hs] at this
  have HA := Lib.hid (Ten.made w ⟨o, 0, 0, 0, 0, 0, 0, 0, 0, 0⟩ 44)
  clear hs hI hi
  go_enter Tryz.func47, Tryz.ntmps47
  go_wp2_with (first | (go_at_call 42; ((with_reducible refine (HSh.out _).mono ?_); rintro e w1 ⟨rfl, hb⟩; obtain ⟨a0, a1, a2, a3, a4, a5, a6, a7, a8, a9⟩ := HA.out.below hb (by simp); have HB := Lib.hid (after (bel_alloc (Below.refl w.heap.size w) _) hb); clear hb)))
  go_ret
  exact ⟨none, 0, rfl, SL.nil _ _ _, HB.out⟩

set_option maxRecDepth 100000 in
set_option maxHeartbeats 4000000 in
theorem rvals16 (o d n m a x k h t c : Int) (w : World) (hs : shapeI o = 16) (hI : isI ⟨o, d, n, m, a, x, k, h, t, c⟩ = true) (hi : InB ⟨o, d, n, m, a, x, k, h, t, c⟩) :
    Calls Tryz.prog 47 #[inV ⟨o, d, n, m, a, x, k, h, t, c⟩] w (RetU (valF 16 ⟨o, d, n, m, a, x, k, h, t, c⟩) w) := by
  have hf := facts16 hs hI
  obtain rfl : a = 0 := by omega
  obtain rfl : x = 0 := by omega
  obtain rfl : k = 0 := by omega
  obtain rfl : h = 0 := by omega
  obtain rfl : t = 0 := by omega
  have HSh : Hid (∀ w, Calls Tryz.prog 42 #[.int .i64 o] w (RetB (.int .i64 16) w)) := Lib.hid fun w => by have := RShape_any o w; rwa [hs] at this
  have HA := Lib.hid (Ten.made w ⟨o, d, n, m, 0, 0, 0, 0, 0, c⟩ 44)
  clear hs hI hi
  go_enter Tryz.func47, Tryz.ntmps47
  go_wp2_with (first | (go_at_call 42; ((with_reducible refine (HSh.out _).mono ?_); rintro e w1 ⟨rfl, hb⟩; obtain ⟨a0, a1, a2, a3, a4, a5, a6, a7, a8, a9⟩ := HA.out.below hb (by simp); have HB := Lib.hid (after (bel_alloc (Below.refl w.heap.size w) _) hb); clear hb)))
  go_ret
  refine retU_lit HB.out _ _ _ _ _ ?_ rfl
  simp [valF, fldS, encU]

theorem RValues_any (i : In) (w : World) (hI : isI i = true) (hi : InB i) : Calls Tryz.prog 47 #[inV i] w (RetU (valF (shapeI i.op).toNat i) w) := by
  have hb := shapeI_b i.op
  have h0 := isI_shape hI
  obtain ⟨s, hs⟩ := Int.eq_ofNat_of_zero_le hb.1
  obtain ⟨o, d, n, m, a, x, k, h, t, c⟩ := i
  simp only [] at hs h0 hb ⊢
  rw [hs, Int.toNat_natCast]
  have hc : s = 1 ∨ s = 2 ∨ s = 3 ∨ s = 4 ∨ s = 5 ∨ s = 6 ∨ s = 7 ∨ s = 8 ∨ s = 9 ∨ s = 10 ∨ s = 11 ∨ s = 12 ∨ s = 13 ∨ s = 14 ∨ s = 15 ∨ s = 16 := by omega
  rcases hc with rfl | rfl | rfl | rfl | rfl | rfl | rfl | rfl | rfl | rfl | rfl | rfl | rfl | rfl | rfl | rfl
  · exact rvals1 o d n m a x k h t c w hs hI hi
  · exact rvals2 o d n m a x k h t c w hs hI hi
  · exact rvals3 o d n m a x k h t c w hs hI hi
  · exact rvals4 o d n m a x k h t c w hs hI hi
  · exact rvals5 o d n m a x k h t c w hs hI hi
  · exact rvals6 o d n m a x k h t c w hs hI hi
  · exact rvals7 o d n m a x k h t c w hs hI hi
  · exact rvals8 o d n m a x k h t c w hs hI hi
  · exact rvals9 o d n m a x k h t c w hs hI hi
  · exact rvals10 o d n m a x k h t c w hs hI hi
  · exact rvals11 o d n m a x k h t c w hs hI hi
  · exact rvals12 o d n m a x k h t c w hs hI hi
  · exact rvals13 o d n m a x k h t c w hs hI hi
  · exact rvals14 o d n m a x k h t c w hs hI hi
  · exact rvals15 o d n m a x k h t c w hs hI hi
  · exact rvals16 o d n m a x k h t c w hs hI hi

/-- A word's fields, by the places of a shape. -/
def fldX (s x : Nat) : List F3 := (plL s).map fun p => (p.1, p.2, fw x p.1.toNat p.2.toNat)
theorem fldX_zf (s x : Nat) : (fldX s x).map zf = (plL s).map fun p => (p.1, p.2, 0) := by
  unfold fldX
  rw [List.map_map]
  rfl
set_option maxRecDepth 10000 in
theorem fldX_z : ∀ s : Fin 17, apartL ((plL s.val).map fun p => (p.1, p.2, 0)) (tight s.val) = true ∧ orAll ((plL s.val).map fun p => (p.1, p.2, 0)) ||| tight s.val = 4294967295 := by decide +kernel
theorem fldX_apart (s x : Nat) (hs : s ≤ 16) : apartL (fldX s x) (tight s) = true ∧ orAll (fldX s x) ||| tight s = 4294967295 := by
  have h := fldX_z ⟨s, by omega⟩
  simp only [] at h
  rw [← fldX_zf s x, apartL_zf, orAll_zf] at h
  exact h
theorem fldX_ok (s x : Nat) : okF (fldX s x) := by
  intro f hf
  unfold fldX at hf
  obtain ⟨p, -, rfl⟩ := List.mem_map.1 hf
  exact fw_lt x p.1.toNat p.2.toNat
/-- A word is what stands in no field, and its fields. -/
theorem word_sum (s x : Nat) (hs : s ≤ 16) (hx : x < 4294967296) : x = (x &&& tight s) + sumF (fldX s x) := by
  have ha := fldX_apart s x hs
  have hk := fldX_ok s x
  have hlt : x &&& tight s < 4294967296 := Nat.lt_of_le_of_lt Nat.and_le_left hx
  obtain ⟨d, hd, hd2, hd3, hd4⟩ := enc_gen (fldX s x) (x &&& tight s) (tight s) hk ha.1 (by rw [Nat.and_assoc, Nat.and_self]) hlt
  have e : d = x := by
    refine word_ext (fldX s x) (tight s) d x (apartL_right _ _ ha.1) ha.2 hd2 hx (fun f hf => ?_) hd4
    rw [hd3 f hf]
    unfold fldX at hf
    obtain ⟨p, -, rfl⟩ := List.mem_map.1 hf
    simp only []
    rw [of_fw]
  have := wordL_sum (fldX s x) (x &&& tight s) (tight s) d hk ha.1 (fun j hj => by rw [Nat.testBit_and, Bool.and_eq_true] at hj; exact hj.2) hlt hd
  omega
theorem sumF_succ {l : List F3} {k : Nat} (h : k < l.length) : sumF (l.take (k + 1)) = sumF (l.take k) + l[k].2.2.toNat * 2 ^ l[k].1.toNat := by
  induction l generalizing k with
  | nil => simp at h
  | cons f r ih =>
    cases k with
    | zero => simp [sumF]
    | succ k =>
      simp only [List.take_succ_cons, sumF, List.getElem_cons_succ]
      rw [ih (by simpa using h)]
      omega
theorem sumF_le (l : List F3) (k : Nat) : sumF (l.take k) ≤ sumF l := by
  induction l generalizing k with
  | nil => simp [sumF]
  | cons f r ih =>
    cases k with
    | zero => simp [sumF]
    | succ k => simp only [List.take_succ_cons, sumF]; have := ih k; omega
/-- What is left of a word behind k fields. -/
def leftX (s x k : Nat) : Nat := x - sumF ((fldX s x).take k)
theorem leftX_zero (s x : Nat) : leftX s x 0 = x := by simp [leftX, sumF]
theorem leftX_end (s x : Nat) (hs : s ≤ 16) (hx : x < 4294967296) (k : Nat) (hk : (plL s).length ≤ k) : leftX s x k = x &&& tight s := by
  unfold leftX
  rw [List.take_of_length_le (by unfold fldX; simpa using hk)]
  have := word_sum s x hs hx
  omega
theorem leftX_succ (s x k : Nat) (hs : s ≤ 16) (hx : x < 4294967296) (hk : k < (plL s).length) :
    ∃ m : Nat, fw x (plL s)[k].1.toNat (plL s)[k].2.toNat * 2 ^ (plL s)[k].1.toNat = ((m : Nat) : Int) ∧ m ≤ leftX s x k ∧ leftX s x (k + 1) = leftX s x k - m ∧ leftX s x k < 4294967296 := by
  have hk2 : k < (fldX s x).length := by unfold fldX; simpa using hk
  have h1 := sumF_succ hk2
  have h2 := sumF_le (fldX s x) (k + 1)
  have h3 := word_sum s x hs hx
  have hg : (fldX s x)[k] = ((plL s)[k].1, (plL s)[k].2, fw x (plL s)[k].1.toNat (plL s)[k].2.toNat) := by simp only [fldX, List.getElem_map]
  rw [hg] at h1
  simp only [] at h1
  have hf := (fw_lt x (plL s)[k].1.toNat (plL s)[k].2.toNat).1
  refine ⟨(fw x (plL s)[k].1.toNat (plL s)[k].2.toNat).toNat * 2 ^ (plL s)[k].1.toNat, ?_, ?_, ?_, ?_⟩
  · rw [Int.natCast_mul, pow_cast, Int.toNat_of_nonneg hf]
  all_goals unfold leftX; omega
theorem plL_good : ∀ s : Fin 17, ∀ p ∈ plL s.val, 0 ≤ p.1 ∧ p.1 < 32 ∧ 1 ≤ p.2 ∧ p.1 + p.2 ≤ 32 := by decide +kernel

set_option maxRecDepth 100000 in
set_option maxHeartbeats 8000000 in
theorem ROpcode_any (x : Nat) (hx : x < 4294967296) (w : World) : Calls Tryz.prog 40 #[.int .u32 x] w (RetB (.int .i64 (opW x : Nat)) w) := by
  go_enter Tryz.func40, Tryz.ntmps40
  go_wp2
  go_loopw [3] (fun i wl => ∃ k : Nat, 1 ≤ k ∧ k ≤ 40 ∧ i = .int .i64 k ∧ (∀ o, 1 ≤ o → o < k → isOp o x = false) ∧ Below w.heap.size w wl) (fun i _ => 40 - (intOf i).toNat)
  case atStart => exact ⟨1, by omega, by omega, rfl, fun o h1 h2 => by omega, Below.refl _ _⟩
  case round =>
    obtain ⟨k, hk1, hk, rfl, hno, hb⟩ := hrel
    have HNO := Lib.hid hno
    have HB := Lib.hid hb
    clear hno hb
    by_cases hlt : k < 40
    · have hsb := shapeI_b (k : Int)
      obtain ⟨s, hs⟩ := Int.eq_ofNat_of_zero_le hsb.1
      have hs16 : s ≤ 16 := by omega
      have HSh : Hid (∀ w, Calls Tryz.prog 42 #[.int .i64 k] w (RetB (.int .i64 s) w)) := Lib.hid fun w => by have := RShape_any (k : Int) w; rwa [hs] at this
      have HPl : Hid (∀ w, Calls Tryz.prog 41 #[.int .i64 s] w (RetQ (plL s) w)) := Lib.hid fun w => Places_any s hs16 w
      have hbs := baseI_in hk1 (show k ≤ 39 by omega)
      have HBs : Hid (∀ w, Calls Tryz.prog 46 #[.int .i64 k] w (RetB (.tuple #[.int .u32 (baL.getD k 0 : Nat), .int .i64 0]) w)) := Lib.hid fun w => by have := RBase_any (k : Int) w; rwa [hbs] at this
      have hop : isOp k x = (((leftX s x (plL s).length : Nat) : Int) == ((baL.getD k 0 : Nat) : Int)) := by
        rw [leftX_end s x hs16 hx _ (Nat.le_refl _)]
        unfold isOp
        rw [hs, Int.toNat_natCast]
        show (x &&& tight s == baN (k : Int)) = _
        unfold baN
        rw [Int.toNat_natCast, Bool.eq_iff_iff, beq_iff_eq, beq_iff_eq, Int.natCast_inj]
      have hbl := baL_lt k hlt
      have HOP := Lib.hid hop
      have HSUC := Lib.hid (fun j hj => leftX_succ s x j hs16 hx hj)
      have HL0 := Lib.hid (leftX_zero s x)
      have HG : Hid (∀ p ∈ plL s, 0 ≤ p.1 ∧ p.1 < 32 ∧ 1 ≤ p.2 ∧ p.1 + p.2 ≤ 32) := Lib.hid (plL_good ⟨s, by omega⟩)
      have hl5 := (plL_len ⟨s, by omega⟩).1
      simp only [] at hl5
      clear hsb hs hbs hop
      generalize leftX s x = lx at *
      generalize baL.getD k 0 = ba at *
      generalize hl : plL s = l at *
      obtain ⟨nl, hnl⟩ : ∃ nl, l.length = nl := ⟨_, rfl⟩
      have hn5 : nl ≤ 5 := by omega
      have HNL := Lib.hid hnl
      rw [hnl] at HOP
      clear hl hnl hl5
      go_wp2_with (first
        | (go_at_call 46; ((with_reducible refine (HBs.out _).mono ?_); rintro e w1 ⟨rfl, hb⟩; replace HB := Lib.hid (after HB.out hb); clear hb))
        | (go_at_call 42; ((with_reducible refine (HSh.out _).mono ?_); rintro e w1 ⟨rfl, hb⟩; replace HB := Lib.hid (after HB.out hb); clear hb))
        | (go_at_call 41; ((with_reducible refine (HPl.out _).mono ?_); rintro e wp ⟨pa, pc, rfl, hsl, hb⟩; rw [HNL.out] at hsl ⊢; have HS := Lib.hid hsl; replace HB := Lib.hid (after HB.out hb); clear hb hsl)))
      go_loopw [6, 8] (fun b i wl => ∃ j : Nat, j ≤ nl ∧ i = .int .i64 j ∧ b = .int .u64 (lx j : Nat) ∧ Below wp.heap.size wp wl) (fun _ i _ => nl - (intOf i).toNat)
      case atStart => exact ⟨0, by omega, rfl, by rw [HL0.out], Below.refl _ _⟩
      case round =>
        obtain ⟨j, hj, rfl, rfl, hb⟩ := hrel
        by_cases hjl : j < nl
        · have hj1 : j < l.length := by have := HNL.out; omega
          obtain ⟨b, off, rfl, hBl, hc⟩ := (HS.out.below hb).cells (HS.out.ne hjl)
          have c0 := hc j hj1 0 (by omega)
          have c1 := hc j hj1 1 (by omega)
          obtain ⟨m, hm1, hm2, hm3, hm4⟩ := HSUC.out j hj1
          have hg := HG.out l[j] (List.getElem_mem _)
          generalize l[j] = p at *
          obtain ⟨p1, p2⟩ := p
          simp only [encQ, Nat.add_zero, List.getElem?_cons_zero, List.getElem?_cons_succ] at c0 c1 hg hm1
          have HFd : Hid (∀ w, Calls Tryz.prog 43 #[.int .u32 x, .int .i64 p1, .int .i64 p2] w (RetD (.tuple #[.int .u32 (fw x p1.toNat p2.toNat), .int .i64 0]) w)) := Lib.hid fun w => by
            have := refField_any x p1 p2 w (by omega) (by omega)
            obtain ⟨a1, rfl⟩ := Int.eq_ofNat_of_zero_le hg.1
            obtain ⟨a2, rfl⟩ := Int.eq_ofNat_of_zero_le (show 0 ≤ p2 by omega)
            rwa [fieldS_in x a1 a2 (by omega) (by omega)] at this
          have HPw : Hid (∀ w, Calls Tryz.prog 48 #[.int .i64 p1] w (Ret (.int .u64 (2 ^ p1.toNat)) w)) := Lib.hid fun w => Power_any p1 w (by omega)
          have bf := fw_lt x p1.toNat p2.toNat
          have hp32 := pow32 p1 (by omega)
          have hf32 : fw x p1.toNat p2.toNat < 4294967296 := (fw_u32 x p1.toNat p2.toNat (by omega)).2
          have bf0 := bf.1
          clear hc bf
          generalize fw x p1.toNat p2.toNat = f at *
          generalize hpw : (2 : Int) ^ p1.toNat = P at *
          have HM1 := Lib.hid hm1
          have HM3 := Lib.hid hm3
          clear hpw hm3
          go_wp2_with fail
          go_quiet ((go_at_call 43; exact Calls.quiet_of (HFd.out _)))
          go_wp2_with (go_at_call 48; ((with_reducible refine (HPw.out _).mono ?_); rintro e w' ⟨rfl, rfl⟩))
          go_roundw
          case rel => exact ⟨j + 1, by omega, by go_num, by rw [HM3.out]; congr 1; have := HM1.out; first | omega | (rw [this]; omega), below_drewN hb _⟩
          case measure => simp [intOf]; omega
        · obtain rfl : j = nl := by omega
          replace HB := Lib.hid (after HB.out hb)
          have hll : lx j < 4294967296 ∨ True := .inr trivial
          cases hq : (((lx j : Nat) : Int) == ((ba : Nat) : Int))
          · have HQ : Hid (isOp k x = false) := Lib.hid (HOP.out.trans hq)
            go_wp2
            go_roundw
            case rel => exact ⟨k + 1, by omega, by omega, by go_num, fun o h1 h2 => by
              by_cases e : o = k
              · rw [e]; exact HQ.out
              · exact HNO.out o h1 (by omega), HB.out⟩
            case measure => simp [intOf]; omega
          · have HQ : Hid (opW x = k) := Lib.hid (opW_is hk1 hlt (HOP.out.trans hq))
            go_wp2
            go_ret
            exact retB_int (by have := HQ.out; omega) HB.out
    · obtain rfl : k = 40 := by omega
      have HQ : Hid (opW x = 0) := Lib.hid (opW_none fun o h1 h2 => HNO.out o h1 h2)
      go_wp2
      go_ret
      exact retB_int (by have := HQ.out; omega) HB.out

set_option maxRecDepth 10000 in
theorem fldS_pl : ∀ s : Fin 17, (fldS s.val ⟨0, 0, 0, 0, 0, 0, 0, 0, 0, 0⟩).map zf = (plL s.val).map fun p => (p.1, p.2, 0) := by decide +kernel
theorem fldS_at (s : Nat) (i : In) (hs : s ≤ 16) : (fldS s i).length = (plL s).length ∧ ∀ k (h : k < (fldS s i).length) (h2 : k < (plL s).length), (fldS s i)[k].1 = (plL s)[k].1 := by
  have h := fldS_pl ⟨s, by omega⟩
  simp only [] at h
  rw [← fldS_zf s i hs] at h
  have hl := congrArg List.length h
  simp only [List.length_map] at hl
  refine ⟨hl, fun k h1 h2 => ?_⟩
  have := congrArg (fun z => z[k]?) h
  simp only [List.getElem?_map, List.getElem?_eq_getElem h1, List.getElem?_eq_getElem h2, Option.map_some, Option.some.injEq, zf, Prod.mk.injEq] at this
  exact this.1
/-- The sum behind k fields. -/
def sumX (i : In) (k : Nat) : Nat := baN i.op + sumF ((fldS (shapeI i.op).toNat i).take k)
theorem sumX_all (i : In) (hI : isI i = true) (hi : InB i) : sumX i 0 = baN i.op ∧ baN i.op < 4294967296 ∧ encW i < 4294967296 ∧ sumX i (plL (shapeI i.op).toNat).length = encW i ∧
    ∀ k, k < (plL (shapeI i.op).toNat).length → ∃ (v : Int) (m : Nat), (valF (shapeI i.op).toNat i)[k]? = some v ∧ 0 ≤ v ∧ v < 4294967296 ∧ ∀ (h : k < (plL (shapeI i.op).toNat).length), v * 2 ^ (plL (shapeI i.op).toNat)[k].1.toNat = (m : Int) ∧ sumX i (k + 1) = sumX i k + m ∧ sumX i (k + 1) ≤ encW i := by
  have hb := shapeI_b i.op
  have ho := code_op hI
  obtain ⟨s, hs⟩ := Int.eq_ofNat_of_zero_le hb.1
  have hs16 : (shapeI i.op).toNat ≤ 16 := by omega
  have hok := (enc_all i hI hi.mask).1
  obtain ⟨a1, a2, -⟩ := apart_t (shapeI i.op).toNat i hs16
  have eo : ((i.op.toNat : Nat) : Int) = i.op := by omega
  have bi := base_in ⟨i.op.toNat, by omega⟩
  simp only [eo] at bi
  obtain ⟨d, hd, hd2, -, -⟩ := enc_gen _ _ _ hok a1 bi.1 bi.2
  have hW : encW i = d := by unfold encW; rw [hd]; rfl
  have hsum := wordL_sum _ _ _ d hok a1 (fun j hj => by rw [← bi.1, Nat.testBit_and, Bool.and_eq_true] at hj; exact hj.2) bi.2 hd
  obtain ⟨hlen, hat⟩ := fldS_at (shapeI i.op).toNat i hs16
  have hwf := wfF hok (apartL_right _ _ a1)
  generalize hss : (shapeI i.op).toNat = ss at *
  refine ⟨by simp [sumX, sumF], bi.2, by omega, ?_, fun k hk => ?_⟩
  · unfold sumX
    rw [hss, List.take_of_length_le (by omega)]; omega
  · have hk2 : k < (fldS ss i).length := by omega
    have hv := hwf (fldS ss i)[k] (List.getElem_mem _)
    refine ⟨(fldS ss i)[k].2.2, (fldS ss i)[k].2.2.toNat * 2 ^ (fldS ss i)[k].1.toNat, ?_, hv.1, hv.2.1, fun h => ⟨?_, ?_, ?_⟩⟩
    · unfold valF
      rw [List.getElem?_map, List.getElem?_eq_getElem hk2]; rfl
    · rw [← hat k hk2 h, Int.natCast_mul, pow_cast, Int.toNat_of_nonneg hv.1]
    · unfold sumX
      rw [hss, sumF_succ hk2]; omega
    · have := sumF_le (fldS ss i) (k + 1)
      unfold sumX
      rw [hss]; omega

set_option maxRecDepth 100000 in
set_option maxHeartbeats 8000000 in
theorem REncode_any (i : In) (w : World) (hi : InB i) : Calls Tryz.prog 22 #[inV i] w (RetB (.tuple #[.int .u32 (encP i).1, .int .i64 (encP i).2]) w) := by
  have HIs : Hid (∀ w, Calls Tryz.prog 45 #[inV i] w (RetB (.bool (isI i)) w)) := Lib.hid fun w => RIs_any i hi w
  have hten := Ten.made w i 44
  obtain ⟨X, hX⟩ : ∃ X, X = w.heap.size := ⟨_, rfl⟩
  obtain ⟨W0, hW0⟩ : ∃ W0, W0 = w.alloc (.cells (inC i) 44) := ⟨_, rfl⟩
  have hXl : X < W0.heap.size := by rw [hX, hW0]; simp
  rw [← hW0, ← hX] at hten
  have HW : Hid (Below w.heap.size w W0) := Lib.hid (by rw [hW0]; exact (Below.refl _ w).alloc (Nat.le_refl _) _)
  have HA := Lib.hid hten
  have HEQ := Lib.hid hW0
  have HXQ := Lib.hid hX
  have HB := Lib.hid (Below.refl W0.heap.size W0)
  clear hX hW0 hten
  cases hI : isI i
  · have HE : Hid (encP i = (0, 1)) := Lib.hid (by unfold encP; rw [hI]; rfl)
    rw [hI] at HIs
    clear hI hi
    generalize encP i = ep at *
    obtain ⟨o, d, n, m, a, x, k, h, t, c⟩ := i
    go_enter Tryz.func22, Tryz.ntmps22
    go_wp2_with fail
    rw [← HEQ.out]
    refine (HIs.out _).mono ?_
    rintro e w1 ⟨rfl, hb⟩
    replace HB := Lib.hid (after HB.out hb)
    clear hb
    go_wp2
    go_ret2
    exact ⟨by rw [HE.out]; rfl, HW.out.trans (HB.out.mono HW.out.size)⟩
  · have HE : Hid (encP i = (((encW i : Nat) : Int), 0)) := Lib.hid (by unfold encP; rw [hI]; rfl)
    rw [hI] at HIs
    have ho := code_op hI
    have hb0 := shapeI_b i.op
    obtain ⟨q1, q2, q3, q4, q5⟩ := sumX_all i hI hi
    obtain ⟨s, hs⟩ := Int.eq_ofNat_of_zero_le hb0.1
    have hs16 : s ≤ 16 := by omega
    have HV : Hid (∀ w, Calls Tryz.prog 47 #[inV i] w (RetU (valF (shapeI i.op).toNat i) w)) := Lib.hid fun w => RValues_any i w hI hi
    have hvl : (valF (shapeI i.op).toNat i).length = (plL (shapeI i.op).toNat).length := by unfold valF; rw [List.length_map]; exact (fldS_at _ i (by omega)).1
    have HSh : Hid (∀ w, Calls Tryz.prog 42 #[.int .i64 i.op] w (RetB (.int .i64 s) w)) := Lib.hid fun w => by have := RShape_any i.op w; rwa [hs] at this
    have HPl : Hid (∀ w, Calls Tryz.prog 41 #[.int .i64 s] w (RetQ (plL s) w)) := Lib.hid fun w => Places_any s hs16 w
    have hbs : baseI i.op = (((baN i.op : Nat) : Int), 0) := by unfold baseI; rw [if_neg (isI_shape hI)]
    have HBs : Hid (∀ w, Calls Tryz.prog 46 #[.int .i64 i.op] w (RetB (.tuple #[.int .u32 (baN i.op : Nat), .int .i64 0]) w)) := Lib.hid fun w => by have := RBase_any i.op w; rwa [hbs] at this
    have HG : Hid (∀ p ∈ plL s, 0 ≤ p.1 ∧ p.1 < 32 ∧ 1 ≤ p.2 ∧ p.1 + p.2 ≤ 32) := Lib.hid (plL_good ⟨s, by omega⟩)
    have hl5 := (plL_len ⟨s, by omega⟩).1
    simp only [] at hl5
    rw [hs, Int.toNat_natCast] at HV hvl q4 q5
    have HQ5 := Lib.hid q5
    clear hI hi hb0 hs hbs q5
    generalize valF s i = vl at *
    generalize sumX i = sx at *
    generalize encP i = ep at *
    generalize encW i = ew at *
    generalize baN i.op = ba at *
    generalize plL s = l at *
    obtain ⟨nl, hnl⟩ : ∃ nl, l.length = nl := ⟨_, rfl⟩
    have hn5 : nl ≤ 5 := by omega
    have HNL := Lib.hid hnl
    have HVL : Hid (vl.length = nl) := Lib.hid (by omega)
    have HQ4 : Hid (sx nl = ew) := Lib.hid (by rw [← hnl]; exact q4)
    have HQ1 := Lib.hid q1
    clear hnl hvl hl5 q4 q1
    obtain ⟨o, d, n, m, a, x, k, h, t, c⟩ := i
    simp only [] at HSh HBs
    go_enter Tryz.func22, Tryz.ntmps22
    go_wp2_with fail
    rw [← HEQ.out, ← HXQ.out]
    refine (HIs.out _).mono ?_
    rintro e w1 ⟨rfl, hb⟩
    replace HB := Lib.hid (after HB.out hb)
    clear hb
    obtain ⟨a0, a1, a2, a3, a4, a5, a6, a7, a8, a9⟩ := HA.out.below HB.out hXl
    go_wp2_with (first
      | (go_at_call 46; ((with_reducible refine (HBs.out _).mono ?_); rintro e w2 ⟨rfl, hb⟩; replace HB := Lib.hid (after HB.out hb); clear hb; clear a0 a1 a2 a3 a4 a5 a6 a7 a8 a9; obtain ⟨a0, a1, a2, a3, a4, a5, a6, a7, a8, a9⟩ := HA.out.below HB.out hXl))
      | (go_at_call 42; ((with_reducible refine (HSh.out _).mono ?_); rintro e w2 ⟨rfl, hb⟩; replace HB := Lib.hid (after HB.out hb); clear hb))
      | (go_at_call 41; ((with_reducible refine (HPl.out _).mono ?_); rintro e w3 ⟨pa, pc, rfl, hsl, hb⟩; rw [HNL.out] at hsl ⊢; have HS := Lib.hid hsl; replace HB := Lib.hid (after HB.out hb); clear hb hsl; clear a0 a1 a2 a3 a4 a5 a6 a7 a8 a9; obtain ⟨a0, a1, a2, a3, a4, a5, a6, a7, a8, a9⟩ := HA.out.below HB.out hXl))
      | (go_at_call 47; ((with_reducible refine (HV.out _).mono ?_); rintro e w4 ⟨va, vc, rfl, hvs, hb⟩; rw [HVL.out] at hvs ⊢; have HU := Lib.hid hvs; replace HS := Lib.hid (HS.out.next hb); replace HB := Lib.hid (after HB.out hb); clear hb hvs)))
    go_loopw [8, 9] (fun b i wl => ∃ j : Nat, j ≤ nl ∧ i = .int .i64 j ∧ b = .int .u64 (sx j : Nat) ∧ Below w4.heap.size w4 wl) (fun _ i _ => nl - (intOf i).toNat)
    case atStart => exact ⟨0, by omega, rfl, by rw [HQ1.out], Below.refl _ _⟩
    case round =>
      obtain ⟨j, hj, rfl, rfl, hb⟩ := hrel
      by_cases hjl : j < nl
      · have hj1 : j < l.length := by have := HNL.out; omega
        have hj2 : j < vl.length := by have := HVL.out; omega
        obtain ⟨b, off, rfl, hBl, hc⟩ := (HS.out.below hb).cells (HS.out.ne hjl)
        obtain ⟨b2, off2, rfl, hBl2, hc2⟩ := (HU.out.below hb).cells (HU.out.ne hjl)
        have c0 := hc j hj1 0 (by omega)
        have e0 := hc2 j hj2 0 (by omega)
        obtain ⟨v, m2, hv0, hv1, hv2, hv3⟩ := HQ5.out j hj1
        obtain ⟨hm1, hm2, hm3⟩ := hv3 hj1
        have hv4 : vl[j] = v := by rw [List.getElem?_eq_getElem hj2] at hv0; exact Option.some.inj hv0
        rw [hv4] at e0
        have hg := HG.out l[j] (List.getElem_mem _)
        clear hv3
        generalize l[j] = p at *
        obtain ⟨p1, p2⟩ := p
        simp only [encQ, encU, Nat.add_zero, Nat.mul_one, List.getElem?_cons_zero] at c0 e0 hg hm1
        have HPw : Hid (∀ w, Calls Tryz.prog 48 #[.int .i64 p1] w (Ret (.int .u64 (2 ^ p1.toNat)) w)) := Lib.hid fun w => Power_any p1 w (by omega)
        have hp32 := pow32 p1 (by omega)
        clear hc hc2 hv0 hv4
        generalize hpw : (2 : Int) ^ p1.toNat = P at *
        have HM1 := Lib.hid hm1
        have HM2 := Lib.hid hm2
        clear hpw hm2 hm1
        go_wp2_with fail
        go_quiet ((go_at_call 48; exact Calls.quiet_of_same ((HPw.out _).mono fun e w' h => ⟨h.1, h.2.symm⟩)))
        go_wp2
        go_roundw
        case rel => exact ⟨j + 1, by omega, by go_num, by rw [HM2.out]; congr 1; have h1 := HM1.out; have h2 := HM2.out; first | omega | (rw [h1]; omega) | (rw [h1]; simp only [IntKind.wrap_u64]; omega), below_drewN hb _⟩
        case measure => simp [intOf]; omega
      · obtain rfl : j = nl := by omega
        rw [HQ4.out]
        replace HB := Lib.hid (after HB.out hb)
        go_wp2
        go_ret2
        exact ⟨by rw [HE.out]; rfl, HW.out.trans (HB.out.mono HW.out.size)⟩
end Go.Proofs.YtdeigbdcipkaaaaGreatDoor
