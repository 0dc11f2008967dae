/- Rows of ints: the reference's Same, the law's has; inst.rising. -/
import Derived.Test.YtjnmkelppjcofaaDoorI15
import Derived.Deep.MidRow
namespace Go.Proofs.YtjnmkelppjcofaaDoor
set_option linter.unusedVariables false
set_option linter.unusedSimpArgs false
open Go.RowKit

def encI (x : Int) : List Value := [.int .i64 x]
theorem encI_len : ∀ x, (encI x).length = 1 := fun _ => rfl
theorem cell_one_new' (w : World) (u : Value) (T : TypeId) : ∀ j x, [u][j]? = some x → (w.alloc (.cells #[u] T)).cell? ((⟨w.heap.size, 0, none⟩ : Addr).add j) = some x := by
  intro j x hj
  match j, hj with
  | 0, hj => simp at hj; subst hj; simp [Addr.add]
theorem one_one' (x : Int) : ∀ u ∈ [Value.int .i64 x], u.oneCell' = true := by intro u hu; simp at hu; subst hu; rfl
theorem infoI : (Tryd.prog.info? 3).map (fun i => (i.zero, i.size, i.bytes)) = some (some (.int .i64 0), 1, 8) := by kernel_rfl
/-- A row of ints is returned, made anew. -/
def RetL (l : List Int) (w : World) (e : Ending) (w' : World) : Prop :=
  ∃ a c, e = .returned (.slice a l.length c) ∧ SL encI 1 w' w'.heap.size a l.length l ∧ (a = none → l.length = 0 ∧ c = 0) ∧ Below w.heap.size w w'

theorem same_no (a a' : Option Addr) (n n' c c' : Nat) (w : World) (hne : n ≠ n') (hn : n ≤ 1000000) (hn' : n' ≤ 1000000) :
    Calls Tryd.prog 14 #[.slice a n c, .slice a' n' c'] w (RetB (.bool false) w) := by
  have hb : ((n : Int) != n') = true := by rw [bne_iff_ne]; omega
  have HN := Lib.hid hne
  clear hne
  go_enter Tryd.func14, Tryd.ntmps14
  go_wp2
  go_ret
  exact retB_bool rfl (Below.refl _ _)

set_option maxHeartbeats 800000 in
theorem same_yes (a a' : Option Addr) (n c c' : Nat) (l l' : List Int) (w : World) (hn : n ≤ 1000000) (h : SL encI 1 w w.heap.size a n l) (h' : SL encI 1 w w.heap.size a' n l') :
    Calls Tryd.prog 14 #[.slice a n c, .slice a' n c'] w (RetB (.bool (decide (l = l'))) w) := by
  have hl := Lib.hid h.len
  have hl' := Lib.hid h'.len
  go_enter Tryd.func14, Tryd.ntmps14
  go_wp2
  go_loopw [5] (fun i wr => ∃ k : Nat, k ≤ n ∧ i = .int .i64 k ∧ l.take k = l'.take k ∧ Below w.heap.size w wr) (fun i _ => n - (intOf i).toNat)
  case atStart => exact ⟨0, by omega, rfl, rfl, Below.refl _ _⟩
  case round =>
    obtain ⟨k, hk, rfl, htk, hb⟩ := hrel
    have HT := Lib.hid htk
    clear htk
    by_cases hlt : k < n
    · have hk1 : k < l.length := by have := hl.out; omega
      have hk2 : k < l'.length := by have := hl'.out; omega
      obtain ⟨b, off, rfl, hB, hc⟩ := (h.below hb).cells (h.ne hlt)
      obtain ⟨b', off', rfl, hB', hc'⟩ := (h'.below hb).cells (h'.ne hlt)
      have c0 := hc k hk1 0 (by omega)
      have d0 := hc' k hk2 0 (by omega)
      obtain ⟨x, hx⟩ : ∃ x, x = l[k] := ⟨_, rfl⟩
      obtain ⟨y, hy⟩ : ∃ y, y = l'[k] := ⟨_, rfl⟩
      rw [← hx] at c0
      rw [← hy] at d0
      simp only [encI, Nat.add_zero, Nat.mul_one, List.getElem?_cons_zero] at c0 d0
      have HX := Lib.hid hx
      have HY := Lib.hid hy
      clear hc hc' h h' hx hy
      by_cases e : x = y
      · have hb2 : (x != y) = false := by simp [e]
        have HE := Lib.hid e
        clear e
        go_wp2
        go_quiet (fail)
        go_wp2
        go_roundw
        case rel =>
          refine ⟨k + 1, by omega, by go_num, ?_, below_drewN hb _⟩
          rw [List.take_succ_eq_append_getElem hk1, List.take_succ_eq_append_getElem hk2, HT.out, ← HX.out, ← HY.out, HE.out]
        case measure => simp [intOf]; omega
      · have hb2 : (x != y) = true := by simp [e]
        have HE := Lib.hid e
        clear e
        go_wp2
        go_quiet (fail)
        go_wp2
        go_ret
        refine retB_bool ?_ (below_drewN hb _)
        symm; rw [decide_eq_false_iff_not]
        intro hh
        subst hh
        exact HE.out (HX.out.trans HY.out.symm)
    · go_wp2
      go_ret
      refine retB_bool ?_ hb
      symm; rw [decide_eq_true_eq]
      have := HT.out
      rwa [List.take_of_length_le (by have := hl.out; omega), List.take_of_length_le (by have := hl'.out; omega)] at this
theorem Same_any (a a' : Option Addr) (n n' c c' : Nat) (l l' : List Int) (w : World) (hn : n ≤ 1000000) (hn' : n' ≤ 1000000) (h : SL encI 1 w w.heap.size a n l) (h' : SL encI 1 w w.heap.size a' n' l') :
    Calls Tryd.prog 14 #[.slice a n c, .slice a' n' c'] w (RetB (.bool (decide (l = l'))) w) := by
  by_cases e : n = n'
  · subst e
    exact same_yes a a' n c c' l l' w hn h h'
  · have : decide (l = l') = false := by
      rw [decide_eq_false_iff_not]
      intro hh; subst hh; exact e (h.len.trans h'.len.symm)
    rw [this]
    exact same_no a a' n n' c c' w e hn hn'

def memB (l : List Int) (v : Int) : Bool := l.any (· == v)
theorem memB_cons (x : Int) (l : List Int) (v : Int) : memB (x :: l) v = ((x == v) || memB l v) := rfl
theorem memB_iff {l : List Int} {v : Int} : memB l v = true ↔ v ∈ l := by simp [memB]
set_option maxHeartbeats 800000 in
theorem has_any (a : Option Addr) (n c : Nat) (l : List Int) (v : Int) (w : World) (hn : n ≤ 1000000) (h : SL encI 1 w w.heap.size a n l) :
    Calls Tryd.prog 23 #[.slice a n c, .int .i64 v] w (Ret (.bool (memB l v)) w) := by
  have hl := Lib.hid h.len
  go_enter Tryd.func23, Tryd.ntmps23
  go_wp2
  go_loop [5] (fun i => ∃ k : Nat, k ≤ n ∧ i = .int .i64 k ∧ memB l v = memB (l.drop k) v) (fun i => n - (intOf i).toNat)
  case atStart => exact ⟨0, by omega, rfl, rfl⟩
  case round =>
    obtain ⟨k, hk, rfl, htk⟩ := hrel
    have HT := Lib.hid htk
    clear htk
    by_cases hlt : k < n
    · have hk1 : k < l.length := by have := hl.out; omega
      obtain ⟨b, off, rfl, hB, hc⟩ := h.cells (h.ne hlt)
      have c0 := hc k hk1 0 (by omega)
      have HD := Lib.hid (drop_cons hk1)
      obtain ⟨x, hx⟩ : ∃ x, x = l[k] := ⟨_, rfl⟩
      rw [← hx] at c0 HD
      simp only [encI, Nat.add_zero, Nat.mul_one, List.getElem?_cons_zero] at c0
      clear hc h hx
      cases e : (x == v)
      · have HC : Hid (memB l v = memB (l.drop (k + 1)) v) := Lib.hid (by rw [HT.out, HD.out, memB_cons, e, Bool.false_or])
        go_wp2
        go_round
        case rel => exact ⟨k + 1, by omega, by go_num, HC.out⟩
        case measure => simp [intOf]; omega
      · have HC : Hid (memB l v = true) := Lib.hid (by rw [HT.out, HD.out, memB_cons, e, Bool.true_or])
        go_wp2
        go_ret
        exact ret_bool (by rw [HC.out])
    · go_wp2
      go_ret
      exact ret_bool (by rw [HT.out, List.drop_of_length_le (by have := hl.out; omega)]; rfl)

/-! ### rising -/
def boolsL (f : Nat → Bool) : List Value := (List.range 32).map fun j => .bool (f j)
def riseK (f : Nat → Bool) (k : Nat) : List Int := ((List.range k).filter f).map Int.ofNat
def riseL (f : Nat → Bool) : List Int := riseK f 32
theorem boolsL_len (f : Nat → Bool) : (boolsL f).length = 32 := by simp [boolsL]
theorem boolsL_at (f : Nat → Bool) (k : Nat) (h : k < 32) : (boolsL f)[k]? = some (.bool (f k)) := by simp [boolsL, h]
theorem riseK_yes {f : Nat → Bool} {k : Nat} (h : f k = true) : riseK f (k + 1) = riseK f k ++ [(k : Int)] := by simp [riseK, List.range_succ, h]
theorem riseK_no {f : Nat → Bool} {k : Nat} (h : f k = false) : riseK f (k + 1) = riseK f k := by simp [riseK, List.range_succ, h]
theorem riseK_len (f : Nat → Bool) (k : Nat) : (riseK f k).length ≤ k := by
  simp only [riseK, List.length_map]; exact Nat.le_trans (List.length_filter_le _ _) (by simp)
theorem range_bools (f : Nat → Bool) (w : World) (b : Nat) (T : TypeId) (fr : Nat × Nat) (hb : w.heap[b]? = some (.cells (boolsL f).toArray T fr)) : w.rangeAt b 0 (boolsL f) := fun j v hj => by
  rw [Nat.zero_add, World.cell?, hb]
  simpa using hj
theorem size_bools (f : Nat → Bool) : (Tryd.prog.info? 47).map (·.size) = some (boolsL f).length := by rw [boolsL_len]; kernel_rfl
theorem idx_bools (B : List Value) (k : Nat) (v : Value) (w : World) (hk : k < 32) (h : B.toArray[k]? = some v) : (Instr.index 47 (.agg B.toArray) (.int .i64 k)).run Tryd.prog w = .ok v w := by
  have hu : Tryd.prog.underlying 47 = some (.array 32 4) := by kernel_rfl
  rw [List.getElem?_toArray] at h
  have ho : v.oneCell' = true ∨ True := .inr trivial
  simp [Instr.index, run_underlying hu, asIntOf, go_sem, hk, h]
end Go.Proofs.YtjnmkelppjcofaaDoor
