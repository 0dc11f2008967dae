/- show: the tables; names of registers and conditions, numbers. -/
import Derived.Test.YtkcgnmicaigjfaaDoorwA
import Derived.Test.YtkcgnmicaigjfaaDoorwC
import Derived.Test.YtkcgnmicaigjfaaDoorWT
import Derived.Test.YtkcgnmicaigjfaaDoorkC13
namespace Go.Proofs.YtkcgnmicaigjfaaDoor
set_option linter.unusedVariables false
set_option linter.unusedSimpArgs false
open Go.ChangeShapes Go.WideShapes Go.Deep Go.RowKit

def ShS (w : World) : Prop := (∀ j, j < 4 → w.cell? ⟨3, j, none⟩ = some (.string ⟨(shNm (j : Int)).toArray⟩)) ∧ 3 < w.heap.size
theorem ShS.next {w w' : World} (h : ShS w) (hb : Below w.heap.size w w') : ShS w' :=
  ⟨fun j hj => by rw [hb.cell (p := ⟨3, j, none⟩) h.2]; exact h.1 j hj, Nat.lt_of_lt_of_le h.2 hb.size⟩
structure TabS (w : World) : Prop where
  t6 : Tab6 w
  nm : Names w ∧ 0 < w.heap.size
  cd : Conds w
  sh : ShS w
  p10 : Pow10 w
theorem TabS.t4 {w : World} (h : TabS w) : Tab4 w := h.t6.1
theorem TabS.five {w : World} (h : TabS w) : Tab5 w := ⟨h.t4, h.nm⟩
theorem TabS.next {w w' : World} (h : TabS w) (hb : Below w.heap.size w w') : TabS w' :=
  ⟨h.t6.below hb, (h.five.below hb).2, h.cd.next hb, h.sh.next hb, Pow10.next h.p10 hb⟩
/-- The tables lie below B. -/
def TB (B : Nat) (w : World) : Prop := ∃ w0, TabS w0 ∧ w0.heap.size ≤ B ∧ Below w0.heap.size w0 w
theorem TB.tab {w : World} {B : Nat} (h : TB B w) : TabS w := by obtain ⟨w0, h1, -, h3⟩ := h; exact h1.next h3
theorem TB.next {w w' : World} {B : Nat} (h : TB B w) (hb : Below B w w') : TB B w' := by obtain ⟨w0, h1, h2, h3⟩ := h; exact ⟨w0, h1, h2, h3.trans (hb.mono h2)⟩
theorem lit_b (w : World) (o : Obj) : Below w.heap.size w (w.alloc o) := (Below.refl _ _).alloc (Nat.le_refl _) _

theorem rT_len (n : Int) (st : Bool) : (rT n st).length ≤ 3 := by
  unfold rT regTextL
  split
  · simp
  · split
    · decide
    · split
      · decide
      · unfold regNm decL; split <;> simp
theorem intT_len {n : Int} (h : i64ok n) : (intT n).length ≤ 22 := by
  unfold i64ok at h
  unfold intT
  split
  · have := dig10_len (-n).toNat (by omega)
    simp only [List.length_cons]; omega
  · have := dig10_len n.toNat (by omega)
    simp only [List.length_cons]; omega
theorem maT_len {i : In} (h : InB i) : (maT i).length ≤ 19 := by
  have := dig16_len i.mask.toNat (by have := h.mask; omega)
  unfold maT; simp only [List.length_cons]; omega
theorem coT_len (i : In) : (coT i).length ≤ 2 := by
  unfold coT condTx
  split
  · rename_i h
    have h2 : ∀ k : Fin 14, (condsT.getD k.val []).length ≤ 2 := by decide +kernel
    exact h2 ⟨i.cond.toNat, by omega⟩
  · simp
theorem shNm_len (k : Int) : (shNm k).length = 3 := by
  unfold shNm
  split
  · rfl
  · split
    · rfl
    · split <;> rfl

set_option maxRecDepth 100000 in
set_option maxHeartbeats 1000000 in
theorem condText_any (i : In) (hi : InB i) (w : World) (hT : TabS w) : Calls Tryd.prog 12 #[inV i] w (RetB (.string ⟨(coT i).toArray⟩) w) := by
  have HC : Hid (∀ u, Below w.heap.size w u → Calls Tryd.prog 22 #[.int .i64 i.cond] u (Ret (.tuple #[.string ⟨(coT i).toArray⟩, .int .i64 (condTx i.cond).2]) u)) := Lib.hid fun u hu => CondText_any i.cond u (hT.next hu).cd hi.cond
  clear hT hi
  generalize (⟨(coT i).toArray⟩ : ByteArray) = T at *
  generalize (condTx i.cond).2 = e0 at *
  obtain ⟨o, d, n, m, a, x, k, h, t, c⟩ := i
  have HB := Lib.hid (lit_b w (.cells (inC ⟨o, d, n, m, a, x, k, h, t, c⟩) 24))
  go_enter Tryd.func12, Tryd.ntmps12
  go_wp2_with fail
  refine (HC.out _ HB.out).mono ?_
  rintro e w' ⟨rfl, rfl⟩
  go_wp2
  go_ret
  exact ⟨rfl, HB.out⟩
set_option maxRecDepth 100000 in
set_option maxHeartbeats 1000000 in
theorem sregText_any (n : Int) (hn : i64ok n) (st : Bool) (w : World) (hT : TabS w) : Calls Tryd.prog 42 #[.int .i64 n, .bool st] w (RetB (.string ⟨(rT n st).toArray⟩) w) := by
  have HC : Hid (Calls Tryd.prog 50 #[.int .i64 n, .bool st] w (RetB (.tuple #[.string ⟨(rT n st).toArray⟩, .int .i64 (regTextL n st).2]) w)) := Lib.hid (RegText_any n hn st w hT.p10)
  clear hT
  generalize (⟨(rT n st).toArray⟩ : ByteArray) = T at *
  generalize (regTextL n st).2 = e0 at *
  go_enter Tryd.func42, Tryd.ntmps42
  go_wp2_with fail
  refine HC.out.mono ?_
  rintro e w' ⟨rfl, hb⟩
  have HB := Lib.hid hb
  clear hb
  go_wp2
  go_ret
  exact ⟨rfl, HB.out⟩
set_option maxRecDepth 100000 in
set_option maxHeartbeats 1000000 in
theorem intText_any (n : Int) (hn : i64ok n) (w : World) (hT : TabS w) : Calls Tryd.prog 43 #[.int .i64 n] w (RetB (.string ⟨(intT n).toArray⟩) w) := by
  have HO : Hid (Calls Tryd.prog 51 #[.int .i64 n] w (Ret (.tuple #[.bool (decide (n < 0)), .int .u64 (farS n)]) w)) := Lib.hid (Of_any n w hn.1 hn.2)
  by_cases h0 : n < 0
  · obtain ⟨u, hu⟩ : ∃ u : Nat, u = (-n).toNat := ⟨_, rfl⟩
    have hf : farS n = (u : Int) := by rw [farS1 h0]; omega
    have hlt : u < 18446744073709551616 := by unfold i64ok at hn; omega
    have HX : Hid (Calls Tryd.prog 52 #[.int .u64 (u : Int)] w (RetB (.string (textB u)) w)) := Lib.hid (Text_any u w hlt hT.p10)
    have HE : Hid ((⟨(intT n).toArray⟩ : ByteArray) = ⟨#[35, 45]⟩ ++ textB u) := Lib.hid (by
      apply ba_ext
      rw [cat_list]
      unfold intT textB; rw [if_pos h0, hu]; rfl)
    rw [hf, decide_eq_true h0] at HO
    have hsz : (textB u).size ≤ 20 := dig10_len u hlt
    clear hT hf hu hlt hn h0
    go_enter Tryd.func43, Tryd.ntmps43
    go_wp2_with fail
    refine HO.out.mono ?_
    rintro e w' ⟨rfl, rfl⟩
    go_wp2_with fail
    refine HX.out.mono ?_
    rintro e w' ⟨rfl, hb⟩
    have HB := Lib.hid hb
    clear hb
    go_wp2
    go_ret
    exact ⟨by rw [HE.out]; rfl, HB.out⟩
  · obtain ⟨u, hu⟩ : ∃ u : Nat, u = n.toNat := ⟨_, rfl⟩
    have hf : farS n = (u : Int) := by rw [farS2 h0]; omega
    have hlt : u < 18446744073709551616 := by unfold i64ok at hn; omega
    have HX : Hid (Calls Tryd.prog 52 #[.int .u64 (u : Int)] w (RetB (.string (textB u)) w)) := Lib.hid (Text_any u w hlt hT.p10)
    have HE : Hid ((⟨(intT n).toArray⟩ : ByteArray) = ⟨#[35]⟩ ++ textB u) := Lib.hid (by
      apply ba_ext
      rw [cat_list]
      unfold intT textB; rw [if_neg h0, hu]; rfl)
    rw [hf, decide_eq_false h0] at HO
    have hsz : (textB u).size ≤ 20 := dig10_len u hlt
    clear hT hf hu hlt hn h0
    go_enter Tryd.func43, Tryd.ntmps43
    go_wp2_with fail
    refine HO.out.mono ?_
    rintro e w' ⟨rfl, rfl⟩
    go_wp2_with fail
    refine HX.out.mono ?_
    rintro e w' ⟨rfl, hb⟩
    have HB := Lib.hid hb
    clear hb
    go_wp2
    go_ret
    exact ⟨by rw [HE.out]; rfl, HB.out⟩
end Go.Proofs.YtkcgnmicaigjfaaDoor
