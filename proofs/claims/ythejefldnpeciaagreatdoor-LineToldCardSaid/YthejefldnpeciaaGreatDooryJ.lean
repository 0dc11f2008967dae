/- line: among, and what it makes. -/
import Derived.Test.YthejefldnpeciaaGreatDooryA
import Derived.Laws.Rows
namespace Go.Proofs.YthejefldnpeciaaGreatDoor
set_option linter.unusedVariables false
set_option linter.unusedSimpArgs false
open Go.ChangeShapes Go.WideShapes Go.Deep Go.RowKit

theorem fm_len (f : Fm) : (fmC f).length = 3 := rfl
abbrev fmA (f : Fm) : Array Value := #[.string ⟨f.kinds.toArray⟩, .int .i64 f.op, .int .i64 f.need]
abbrev fmZ : Fm := ⟨[], 0, 0⟩
abbrev fnV (b : Nat) : Value := .func (.func 72) #[] #[.pointer (some ⟨b, 0, none⟩)]
/-- A seeker of some forms. -/
def FO (w : World) (v : Value) (fs : List Fm) : Prop := ∃ (b : Nat) (a : Option Addr) (c : Nat), v = fnV b ∧ RB w b #[.slice a fs.length c] 111 ∧ SL fmC 3 w w.heap.size a fs.length fs
theorem FO.next {w u : World} {v : Value} {fs : List Fm} (h : FO w v fs) (hb : Below w.heap.size w u) : FO u v fs := by
  obtain ⟨b, a, c, h1, h2, h3⟩ := h
  exact ⟨b, a, c, h1, h2.next hb, h3.next hb⟩
def AmP (fs : List Fm) (w : World) (e : Ending) (w' : World) : Prop := ∃ v, e = .returned v ∧ FO w' v fs ∧ Below w.heap.size w w'
set_option maxRecDepth 100000 in
theorem among_any (w : World) (a : Option Addr) (n c : Nat) (fs : List Fm) (hs : SL fmC 3 w w.heap.size a n fs) : Calls Tryz.prog 34 #[.slice a n c] w (AmP fs w) := by
  obtain rfl := hs.len
  have HF : Hid (FO (w.alloc (.cells #[.slice a fs.length c] 111)) (fnV w.heap.size) fs) := Lib.hid ⟨_, a, c, rfl, (MapKept.heap_alloc w _).1, hs.next ((Below.refl _ _).alloc (Nat.le_refl _) _)⟩
  have HB : Hid (Below w.heap.size w (w.alloc (.cells #[.slice a fs.length c] 111))) := Lib.hid ((Below.refl _ _).alloc (Nat.le_refl _) _)
  clear hs
  go_enter Tryz.func34, Tryz.ntmps34
  go_wp2
  go_ret
  exact ⟨_, rfl, HF.out, HB.out⟩
def seekF (fs : List Fm) (s : List UInt8) : Fm := (fs.find? fun f => f.kinds == s).getD fmZ
theorem seek_at {fs : List Fm} {s : List UInt8} {k : Nat} {f : Fm} (h : fs[k]? = some f) (he : f.kinds = s) (hb : ∀ (j : Nat) (g : Fm), j < k → fs[j]? = some g → g.kinds ≠ s) : seekF fs s = f := by
  unfold seekF
  have : fs.find? (fun f => f.kinds == s) = some f := by
    rw [List.find?_eq_some_iff_getElem]
    refine ⟨by simpa using he, k, (List.getElem?_eq_some_iff.1 h).1, (List.getElem?_eq_some_iff.1 h).2, fun j hj => ?_⟩
    have hl := (List.getElem?_eq_some_iff.1 h).1
    simpa using hb j _ hj (List.getElem?_eq_getElem (by omega))
  rw [this]; rfl
theorem seek_none {fs : List Fm} {s : List UInt8} (hb : ∀ (j : Nat) (g : Fm), fs[j]? = some g → g.kinds ≠ s) : seekF fs s = fmZ := by
  unfold seekF
  have : fs.find? (fun f => f.kinds == s) = none := by
    rw [List.find?_eq_none]
    intro f hf
    obtain ⟨j, hj⟩ := List.getElem?_of_mem hf
    simpa using hb j f hj
  rw [this]; rfl
theorem zeroForm (w : World) : (zeroValue 59).run Tryz.prog w = .ok (.agg #[.string ⟨#[]⟩, .int .i64 0, .int .i64 0]) w := by kernel_rfl
theorem fm_cells {w : World} {b off k : Nat} {f : Fm} (hc : ∀ j, j < 3 → w.cell? ⟨b, off + k * 3 + j, none⟩ = (fmC f)[j]?) :
    w.cell? ⟨b, off + k * 3, none⟩ = some (.string ⟨f.kinds.toArray⟩) ∧ w.cell? ⟨b, off + k * 3 + 1, none⟩ = some (.int .i64 f.op) ∧ w.cell? ⟨b, off + k * 3 + 2, none⟩ = some (.int .i64 f.need) :=
  ⟨hc 0 (by omega), hc 1 (by omega), hc 2 (by omega)⟩
/-- Under way: the result's block is as it was. -/
structure SkW (w u : World) (X : Nat) : Prop where
  x : RB u X #[.string ⟨#[]⟩, .int .i64 0, .int .i64 0] 59
  k : Below w.heap.size w u
  lt : w.heap.size ≤ X
theorem rb3 {w : World} {X : Nat} {a b c x y z : Value} {T : TypeId} (h : RB w X #[a, b, c] T) : RB (((w.setCell ⟨X, 0, none⟩ x).setCell ⟨X, 1, none⟩ y).setCell ⟨X, 2, none⟩ z) X #[x, y, z] T :=
  ((RB.set h (j := 0) x).set (j := 1) y).set (j := 2) z
theorem below3 {w u : World} {X : Nat} {x y z : Value} (h : Below w.heap.size w u) (hX : w.heap.size ≤ X) : Below w.heap.size w (((u.setCell ⟨X, 0, none⟩ x).setCell ⟨X, 1, none⟩ y).setCell ⟨X, 2, none⟩ z) :=
  ((h.setCell (p := ⟨X, 0, none⟩) hX _).setCell (p := ⟨X, 1, none⟩) hX _).setCell (p := ⟨X, 2, none⟩) hX _
set_option maxRecDepth 100000 in
set_option maxHeartbeats 3000000 in
theorem seek_any {w : World} {v : Value} {fs : List Fm} (h : FO w v fs) (hn : fs.length ≤ 1000) (S : ByteArray) :
    ∃ b, v = fnV b ∧ Calls Tryz.prog 72 #[.string S, .pointer (some ⟨b, 0, none⟩)] w (RetB (.agg (fmA (seekF fs S.data.toList))) w) := by
  obtain ⟨b, a, c, h1, h2, h3⟩ := h
  refine ⟨b, h1, ?_⟩
  clear h1
  obtain ⟨n, hnl⟩ : ∃ n, n = fs.length := ⟨_, rfl⟩
  rw [← hnl] at hn h2 h3
  have hni : (n : Int) ≤ 1000 := by omega
  have hzf := zeroForm
  have x0 : w.cell? ⟨b, 0, none⟩ = some (.slice a n c) := h2.cell
  have H2 : Hid (∀ u, Below w.heap.size w u → u.cell? ⟨b, 0, none⟩ = some (.slice a n c)) := Lib.hid fun u hu => (h2.next hu).cell
  have HS : Hid (∀ u, Below w.heap.size w u → SL fmC 3 u u.heap.size a n fs) := Lib.hid fun u hu => h3.next hu
  obtain ⟨W, hW⟩ : ∃ W, W = w.alloc (.cells #[.string ⟨#[]⟩, .int .i64 0, .int .i64 0] 59) := ⟨_, rfl⟩
  obtain ⟨X, hX⟩ : ∃ X, X = w.heap.size := ⟨_, rfl⟩
  have HW := Lib.hid hW.symm
  have HX := Lib.hid hX.symm
  have HK0 : Hid (SkW w W X) := Lib.hid ⟨by rw [hW, hX]; exact (MapKept.heap_alloc w _).1, by rw [hW]; exact (Below.refl _ _).alloc (Nat.le_refl _) _, by omega⟩
  have x1 := H2.out W HK0.out.k
  have x2 := x1
  rw [hW] at x2
  have HNl := Lib.hid hnl
  have HB0 : Hid (∀ (j : Nat) (g : Fm), j < 0 → fs[j]? = some g → g.kinds ≠ S.data.toList) := Lib.hid (fun j g hj => absurd hj (by omega))
  clear h2 h3 hW hX hn hnl
  go_enter Tryz.func72, Tryz.ntmps72
  go_wp2_with fail
  rw [HW.out, HX.out]
  go_loopw [8] (fun i wr => ∃ (k : Nat) (wx : World), wx = wr ∧ k ≤ n ∧ i = .int .i64 k ∧ Hid (SkW w wx X) ∧ Hid (∀ (j : Nat) (g : Fm), j < k → fs[j]? = some g → g.kinds ≠ S.data.toList)) (fun i _ => n - (intOf i).toNat)
  case atStart => exact ⟨0, _, rfl, by omega, rfl, HK0, HB0⟩
  case round =>
    clear HK0 HB0 x0 x1 x2
    obtain ⟨k, wx, rfl, hk, rfl, HK, HBk⟩ := hrel
    by_cases hlt : k < n
    · have hlti : (k : Int) < (n : Int) := by omega
      have HLT := Lib.hid hlt
      obtain ⟨f, hf⟩ : ∃ f, fs[k]? = some f := ⟨_, List.getElem?_eq_getElem (by rw [← HNl.out]; exact hlt)⟩
      obtain ⟨sb, so, hsa, -, hc⟩ := (HS.out wx HK.out.k).cells (by intro e; rw [e] at hf; cases hf)
      subst hsa
      obtain ⟨hfl, hfe⟩ := List.getElem?_eq_some_iff.1 hf
      obtain ⟨y0, y1, y2⟩ := fm_cells (fun j hj => hc k hfl j hj)
      rw [hfe] at y0 y1 y2
      obtain ⟨N, hN⟩ : ∃ N : ByteArray, N = ⟨f.kinds.toArray⟩ := ⟨_, rfl⟩
      rw [← hN] at y0
      have hNl : N.data.toList = f.kinds := by rw [hN]
      by_cases he : f.kinds = S.data.toList
      · have HE : Hid (seekF fs S.data.toList = f) := Lib.hid (seek_at hf he HBk.out)
        have ht : (N.toList == S.toList) = true := by rw [ByteArray.toList_eq, ByteArray.toList_eq, hNl, he]; simp
        have HNe := Lib.hid hN
        have HKa : Hid (SkW w (wx.alloc (.cells #[.string N, .int .i64 f.op, .int .i64 f.need] 59)) X) := Lib.hid ⟨RB.next HK.out.x ((Below.refl _ _).alloc (Nat.le_refl _) _), HK.out.k.alloc HK.out.k.size _, HK.out.lt⟩
        have z0 : World.cell? _ ⟨X, 0, none⟩ = some (.string ⟨#[]⟩) := HKa.out.x.cell
        have z1 : World.cell? _ ⟨X, 1, none⟩ = some (.int .i64 0) := HKa.out.x.cell
        have z2 : World.cell? _ ⟨X, 2, none⟩ = some (.int .i64 0) := HKa.out.x.cell
        have zf : ∀ j, World.frozen? _ ⟨X, j, none⟩ = false := fun j => RB.frozen HKa.out.x
        have HR := Lib.hid (rb3 (x := .string N) (y := .int .i64 f.op) (z := .int .i64 f.need) HKa.out.x)
        have HBz := Lib.hid (below3 (x := .string N) (y := .int .i64 f.op) (z := .int .i64 f.need) HKa.out.k HKa.out.lt)
        clear he hf hfl hfe hc hN hNl hlt hk
        go_wp2
        refine bodyPost_ret (results_cell_row (P := Tryz.prog) rfl _ _ X 59 _ (0, 0) _ rfl HR.out Tryz.underlying59 rfl (by kernel_rfl)) rfl ?_
        exact ⟨by rw [HE.out, HNe.out], HBz.out⟩
      · have HB2 : Hid (∀ (j : Nat) (g : Fm), j < k + 1 → fs[j]? = some g → g.kinds ≠ S.data.toList) := Lib.hid (fun j g hj hg => by
          rcases Nat.lt_succ_iff_lt_or_eq.1 hj with h | h
          · exact HBk.out j g h hg
          · subst h; rw [hf] at hg; cases hg; exact he)
        have ht : (N.toList == S.toList) = false := by rw [ByteArray.toList_eq, ByteArray.toList_eq, hNl]; simpa using he
        have HKa : Hid (SkW w (wx.alloc (.cells #[.string N, .int .i64 f.op, .int .i64 f.need] 59)) X) := Lib.hid ⟨RB.next HK.out.x ((Below.refl _ _).alloc (Nat.le_refl _) _), HK.out.k.alloc HK.out.k.size _, HK.out.lt⟩
        clear he hf hfl hfe hc hN hNl hlt hk
        go_wp2
        go_roundw
        case rel => exact ⟨k + 1, _, rfl, by have := HLT.out; omega, by go_num, HKa, HB2⟩
        case measure => have := HLT.out; simp [intOf]; omega
    · have hlti : ¬ (k : Int) < (n : Int) := by omega
      have hkn : k = n := by omega
      have HE : Hid (seekF fs S.data.toList = fmZ) := Lib.hid (seek_none (fun j g hj => HBk.out j g (by rw [hkn, HNl.out]; exact (List.getElem?_eq_some_iff.1 hj).1) hj))
      have z0 : World.cell? _ ⟨X, 0, none⟩ = some (.string ⟨#[]⟩) := HK.out.x.cell
      have z1 : World.cell? _ ⟨X, 1, none⟩ = some (.int .i64 0) := HK.out.x.cell
      have z2 : World.cell? _ ⟨X, 2, none⟩ = some (.int .i64 0) := HK.out.x.cell
      have zf : ∀ j, World.frozen? _ ⟨X, j, none⟩ = false := fun j => RB.frozen HK.out.x
      have HR := Lib.hid (rb3 (x := .string ⟨#[]⟩) (y := .int .i64 0) (z := .int .i64 0) HK.out.x)
      have HBz := Lib.hid (below3 (x := .string ⟨#[]⟩) (y := .int .i64 0) (z := .int .i64 0) HK.out.k HK.out.lt)
      clear hk hlt hkn
      go_wp2
      refine bodyPost_ret (results_cell_row (P := Tryz.prog) rfl _ _ X 59 _ (0, 0) _ rfl HR.out Tryz.underlying59 rfl (by kernel_rfl)) rfl ?_
      exact ⟨by rw [HE.out], HBz.out⟩
end Go.Proofs.YthejefldnpeciaaGreatDoor
