/- mem: Load, Word, Text. -/
import Derived.Test.YtogigmehclmjcaaME3
namespace Go.Proofs.Ytogigmehclmjcaa
set_option linter.unusedVariables false
set_option linter.unusedSimpArgs false
open Go.ChangeShapes Go.WideShapes Go.Deep Go.RowKit

theorem find_mem {l : List Ar} {x n : Nat} {a : Ar} (h : findA l x n = some a) : a ∈ l ∧ a.pos ≤ x ∧ x + n ≤ a.pos + a.bs.length := by
  have h1 := List.mem_of_find?_eq_some h
  have h2 := List.find?_some h
  unfold hit at h2
  simp only [Bool.and_eq_true, decide_eq_true_eq] at h2
  exact ⟨h1, h2.1, h2.2⟩
/-- The n bytes from x on. -/
def seg (a : Ar) (x n : Nat) : List UInt8 := (a.bs.drop (x - a.pos)).take n
theorem seg_len {a : Ar} {x n : Nat} (h1 : a.pos ≤ x) (h2 : x + n ≤ a.pos + a.bs.length) : (seg a x n).length = n := by
  unfold seg
  rw [List.length_take, List.length_drop]; omega
theorem seg_get {a : Ar} {x n k : Nat} (hk : k < (seg a x n).length) (h : x - a.pos + k < a.bs.length) : (seg a x n)[k] = a.bs[x - a.pos + k] := by
  apply Option.some.inj
  rw [← List.getElem?_eq_getElem, ← List.getElem?_eq_getElem]
  have hkn : k < n := by
    unfold seg at hk
    rw [List.length_take] at hk; omega
  unfold seg
  rw [List.getElem?_take_of_lt hkn, List.getElem?_drop]
theorem seg_at {w : World} {base p : Nat} {l : List Ar} (h : MS w base p l) {a : Ar} (ha : a ∈ l) {x n : Nat} (h1 : a.pos ≤ x) (h2 : x + n ≤ a.pos + a.bs.length) : ByAt w a.blk (x - a.pos) (seg a x n) := by
  obtain ⟨v, k1, k2, k3, k4, k5⟩ := h
  obtain ⟨-, hb⟩ := k4 a ha
  intro k hk
  have hl := seg_len h1 h2
  have hx : x - a.pos + k < a.bs.length := by omega
  rw [seg_get hk hx, World.cell?, hb]
  simp [Lib.byteCells, hx]
theorem ByAt.below {w w' : World} {b o : Nat} {l : List UInt8} (h : ByAt w b o l) (hb : Below w.heap.size w w') : ByAt w' b o l := fun k hk => by
  have := h k hk
  rw [hb.cell (p := ⟨b, o + k, none⟩) (cell_lt this)]; exact this
/-- What is loaded. -/
def loadA (l : List Ar) (x : Nat) (n : Int) : Nat × Int :=
  if n ≠ 1 ∧ n ≠ 8 then (0, 1) else match findA l x n.toNat with
    | none => (0, 4)
    | some a => (leV (seg a x n.toNat), 0)
def wordA (l : List Ar) (x : Nat) : Nat × Int :=
  if x % 4 ≠ 0 then (0, 5) else match findA l x 4 with
    | none => (0, 4)
    | some a => if a.kind ≠ 1 then (0, 10) else (leV (seg a x 4), 0)
def textA (l : List Ar) (x : Nat) (n : Int) : ByteArray × Int :=
  if n < 0 ∨ 65536 < n then (ByteArray.empty, 1) else if n = 0 then (ByteArray.empty, 0) else match findA l x n.toNat with
    | none => (ByteArray.empty, 4)
    | some a => (⟨(seg a x n.toNat).toArray⟩, 0)
def Good (l : List Ar) : Prop := Apart l ∧ (∀ a ∈ l, GoodA a) ∧ l.length ≤ 1000
theorem qptr (w : World) (p : Nat) : (Sem.run Try.prog (binOp .eql 25 (.pointer (some ⟨p, 0, none⟩)) (.pointer none)) w) = .ok (.bool false) w := by kernel_rfl
set_option maxRecDepth 100000 in
set_option maxHeartbeats 2000000 in
theorem Load_any {w : World} {base p : Nat} {l : List Ar} (h : MS w base p l) (hg : Good l) (x : Nat) (n : Int) (hx : x < 18446744073709551616) :
    Calls Try.prog 9 #[.pointer (some ⟨p, 0, none⟩), .int .u64 x, .int .i64 n] w (RetB (.tuple #[.int .u64 ((loadA l x n).1 : Nat), .int .i64 (loadA l x n).2]) w) := by
  by_cases hn : n ≠ 1 ∧ n ≠ 8
  · rw [show loadA l x n = (0, 1) by unfold loadA; rw [if_pos hn]]
    have n1 : (n != 1) = true := by rw [bne_iff_ne]; exact hn.1
    have n8 : (n != 8) = true := by rw [bne_iff_ne]; exact hn.2
    clear h hg hn
    go_enter Try.func9, Try.ntmps9
    go_wp2
    go_ret2
    exact ⟨rfl, Below.refl _ _⟩
  · have hn' : n = 1 ∨ n = 8 := by omega
    have hn1 : 1 ≤ n.toNat ∧ n.toNat ≤ 8 ∧ (n.toNat : Int) = n := by omega
    obtain ⟨m, hm⟩ : ∃ m, m = n.toNat := ⟨_, rfl⟩
    rw [← hm] at hn1
    obtain ⟨m1, m8, mn⟩ := hn1
    have hF := find_any h hg.1 hg.2.1 x m hx m1 (by omega) hg.2.2
    have hm18 : m = 1 ∨ m = 8 := by omega
    subst mn
    cases hf : findA l x m with
    | none =>
      rw [show loadA l x (m : Int) = (0, 4) by unfold loadA; rw [if_neg hn, ← hm, hf]]
      rw [hf] at hF
      unfold foundV at hF
      have HF := Lib.hid hF
      clear h hg hF hf hm hn hn'
      rcases hm18 with rfl | rfl
      all_goals
        go_enter Try.func9, Try.ntmps9
        go_wp2_with fail
        refine HF.out.mono ?_
        rintro e w1 ⟨rfl, hb⟩
        have HB := Lib.hid hb
        clear hb
        go_wp2
        go_ret2
        exact ⟨rfl, HB.out⟩
    | some a =>
      rw [show loadA l x (m : Int) = (leV (seg a x m), 0) by unfold loadA; rw [if_neg hn, ← hm, hf]]
      rw [hf] at hF
      obtain ⟨f1, f2, f3⟩ := find_mem hf
      have HL := Lib.hid (seg_len f2 f3)
      have HB1 := Lib.hid (seg_at h f1 f2 f3)
      obtain ⟨P, K, X, S⟩ := a
      unfold foundV at hF
      simp only [] at hF
      have HF := Lib.hid hF
      generalize hsg : seg ⟨P, K, X, S⟩ x m = sg at *
      clear h hg hF hf hm hn hn' f1 f2 f3 hsg
      simp only [] at HB1
      generalize x - P = F at *
      generalize S.length - F = C at *
      generalize hlv : leV sg = LV at *
      have HLV := Lib.hid hlv
      clear hlv
      rcases hm18 with rfl | rfl
      all_goals
        go_enter Try.func9, Try.ntmps9
        go_wp2_with fail
        refine HF.out.mono ?_
        rintro e w1 ⟨rfl, hb⟩
        have HB := Lib.hid hb
        have HN := Lib.hid (number_of X F C sg w1 (HB1.out.below hb) (by rw [HL.out]; omega))
        rw [HL.out, HLV.out] at HN
        clear hb
        go_wp2_with fail
        refine HN.out.mono ?_
        rintro e w2 ⟨rfl, rfl⟩
        go_wp2
        go_ret2
        exact ⟨rfl, HB.out⟩
end Go.Proofs.Ytogigmehclmjcaa
