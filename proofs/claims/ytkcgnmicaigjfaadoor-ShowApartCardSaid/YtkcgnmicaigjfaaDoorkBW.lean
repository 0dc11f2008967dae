/- mask.find. mask.Is, mask.Encode. -/
import Derived.Test.YtkcgnmicaigjfaaDoorkBZ
import Derived.Outline
namespace Go.Proofs.YtkcgnmicaigjfaaDoor
set_option linter.unusedVariables false
set_option linter.unusedSimpArgs false
open Go.RowKit

/-- What a block of three cells reads as, also under a block more, and while its cells are written one by one. -/
theorem blk3 {w : World} {B T : Nat} {x y z : Value} (h : w.heap[B]? = some (.cells #[x, y, z] T (0, 0))) :
    (∀ X, (w.alloc X).cell? ⟨B, 0, none⟩ = some x) ∧ (∀ X, (w.alloc X).cell? ⟨B, 1, none⟩ = some y) ∧ (∀ X, (w.alloc X).cell? ⟨B, 2, none⟩ = some z) ∧
    (∀ X, (w.alloc X).frozen? ⟨B, 0, none⟩ = false) ∧ (∀ X, (w.alloc X).frozen? ⟨B, 1, none⟩ = false) ∧ (∀ X, (w.alloc X).frozen? ⟨B, 2, none⟩ = false) := by
  have hl := lt_of_block h
  have h2 : ∀ X, (w.alloc X).heap[B]? = some (.cells #[x, y, z] T (0, 0)) := fun X => (Below.heap_alloc _ _ _ hl).trans h
  exact ⟨fun X => by simp [World.cell?, h2], fun X => by simp [World.cell?, h2], fun X => by simp [World.cell?, h2], fun X => by simp [World.frozen?, h2], fun X => by simp [World.frozen?, h2], fun X => by simp [World.frozen?, h2]⟩
theorem blk0 {w : World} {B T : Nat} {x y z : Value} (h : w.heap[B]? = some (.cells #[x, y, z] T (0, 0))) :
    w.cell? ⟨B, 0, none⟩ = some x ∧ w.cell? ⟨B, 1, none⟩ = some y ∧ w.cell? ⟨B, 2, none⟩ = some z ∧ w.frozen? ⟨B, 0, none⟩ = false ∧ w.frozen? ⟨B, 1, none⟩ = false ∧ w.frozen? ⟨B, 2, none⟩ = false := by
  exact ⟨by simp [World.cell?, h], by simp [World.cell?, h], by simp [World.cell?, h], by simp [World.frozen?, h], by simp [World.frozen?, h], by simp [World.frozen?, h]⟩
theorem set0 {w : World} {B T : Nat} {x y z a : Value} (h : w.heap[B]? = some (.cells #[x, y, z] T (0, 0))) : (w.setCell ⟨B, 0, none⟩ a).heap[B]? = some (.cells #[a, y, z] T (0, 0)) := by
  simp [World.setCell, h, Array.getElem?_modify]
theorem set1 {w : World} {B T : Nat} {x y z a : Value} (h : w.heap[B]? = some (.cells #[x, y, z] T (0, 0))) : (w.setCell ⟨B, 1, none⟩ a).heap[B]? = some (.cells #[x, a, z] T (0, 0)) := by
  simp [World.setCell, h, Array.getElem?_modify]
theorem set2 {w : World} {B T : Nat} {x y z a : Value} (h : w.heap[B]? = some (.cells #[x, y, z] T (0, 0))) : (w.setCell ⟨B, 2, none⟩ a).heap[B]? = some (.cells #[x, y, a] T (0, 0)) := by
  simp [World.setCell, h, Array.getElem?_modify]
theorem set012 {w : World} {B T : Nat} {x y z : Value} (h : w.heap[B]? = some (.cells #[x, y, z] T (0, 0))) (a b c : Value) :
    (((w.setCell ⟨B, 0, none⟩ a).setCell ⟨B, 1, none⟩ b).setCell ⟨B, 2, none⟩ c).heap[B]? = some (.cells #[a, b, c] T (0, 0)) := set2 (set1 (set0 h))
theorem below_set012 {w0 w : World} {B : Nat} {a b c : Value} {S : Nat} (hb : Below S w0 w) (hB : S ≤ B) :
    Below S w0 (((w.setCell ⟨B, 0, none⟩ a).setCell ⟨B, 1, none⟩ b).setCell ⟨B, 2, none⟩ c) :=
  ((hb.setCell (p := ⟨B, 0, none⟩) hB _).setCell (p := ⟨B, 1, none⟩) hB _).setCell (p := ⟨B, 2, none⟩) hB _

set_option maxHeartbeats 1000000 in
theorem find_any (v : Nat) (w : World) (hv : v < 18446744073709551616) (hT : Tab w) :
    Calls Tryd.prog 48 #[.int .u64 v] w (RetB (shapeV (findS v)) w) := by
  have L := sizeL_least v hv
  have hsz := L.size
  have hsl := isSz_le hsz
  have hpv : partL v < 18446744073709551616 := Nat.lt_of_le_of_lt (Nat.mod_le _ _) hv
  have hps : partL v < 2 ^ sizeL v := Nat.mod_lt _ (Nat.two_pow_pos _)
  have hoe : pcN (partL v) 64 = pcN (partL v) (sizeL v) := pcN_more _ _ _ hps (by omega)
  have hol : pcN (partL v) 64 ≤ sizeL v := by rw [hoe]; exact pcN_le _ _
  have HLow : Hid (∀ w, Calls Tryd.prog 64 #[.int .u64 v, .int .i64 (sizeL v : Nat)] w (Ret (.int .u64 (partL v : Nat)) w)) := Lib.hid fun w => low_natC v (sizeL v) w (by omega) hv
  have HTurn : Hid (∀ w, Tab w → Calls Tryd.prog 65 #[.int .u64 (partL v : Nat), .int .i64 (sizeL v : Nat)] w (Ret (.int .i64 (turnS (partL v) (sizeL v))) w)) := Lib.hid fun w h => turn_any (partL v) (sizeL v) w hpv (by omega) (by omega) h.1
  have HOnes : Hid (∀ w, Calls Tryd.prog 66 #[.int .u64 (partL v : Nat)] w (Ret (.int .i64 (pcN (partL v) 64 : Nat)) w)) := Lib.hid fun w => Ones_any _ w hpv
  have HSize : Hid (∀ w, Calls Tryd.prog 63 #[.int .u64 v] w (RetB (.int .i64 (sizeL v : Nat)) w)) := Lib.hid fun w => Size_any v w hv
  have HM : Hid (∀ (k r s : Nat) w, isSz s = true → 1 ≤ k → k < s → r < s → Calls Tryd.prog 67 #[.agg #[.int .i64 s, .int .i64 r, .int .i64 k]] w (RetB (.int .u64 (maskN k r s)) w)) := Lib.hid fun k r s w a b c d => make64_any k r s w a b c d
  have HT := Lib.hid hT
  have HTL : pcN (partL v) 64 < sizeL v → ∃ r : Nat, r < sizeL v ∧ turnS (partL v) (sizeL v) = r := fun h => turnS_lt _ _ hpv (by omega) h
  unfold findS
  generalize partL v = p at *
  generalize sizeL v = s at *
  generalize pcN p 64 = o at *
  generalize turnS p s = t at *
  clear hoe hps L hT
  have hsz' := Lib.hid hsz
  have HTL' := Lib.hid HTL
  clear hsz HTL
  by_cases c0 : o = 0 ∨ o = s
  · rw [if_pos c0]
    by_cases c00 : o = 0
    all_goals
      first | subst c00 | (obtain rfl : o = s := by omega)
      clear c0
      go_enter Tryd.func48, Tryd.ntmps48
      go_wp2_with fail
      refine (HSize.out _).mono ?_
      rintro e w1 ⟨rfl, hb1⟩
      obtain ⟨B, hB⟩ : ∃ B, B = w.heap.size := ⟨_, rfl⟩
      have hBl : B < w1.heap.size := by have := hb1.size; simp at this; omega
      have hblk : w1.heap[B]? = some (.cells #[.int .i64 0, .int .i64 0, .int .i64 0] 85 (0, 0)) := by
        rw [hb1.block B (by rw [hB]; simp), hB]; exact (MapKept.heap_alloc w _).1
      have HBW : Hid (Below w.heap.size w w1) := Lib.hid (((Below.refl w.heap.size w).alloc (Nat.le_refl _) _).trans (hb1.mono (by simp)))
      have HBN : Hid (w.heap.size ≤ B) := Lib.hid (by omega)
      clear hb1
      rw [← hB]
      clear hB
      have HBK := Lib.hid hblk
      obtain ⟨d0, d1, d2, e0, e1, e2⟩ := blk3 hblk
      have d11 : ∀ a X, ((w1.setCell ⟨B, 0, none⟩ a).alloc X).cell? ⟨B, 1, none⟩ = some (.int .i64 0) := fun a X => (blk3 (set0 hblk)).2.1 X
      have e11 : ∀ a X, ((w1.setCell ⟨B, 0, none⟩ a).alloc X).frozen? ⟨B, 1, none⟩ = false := fun a X => (blk3 (set0 hblk)).2.2.2.2.1 X
      have d22 : ∀ a b X, (((w1.setCell ⟨B, 0, none⟩ a).setCell ⟨B, 1, none⟩ b).alloc X).cell? ⟨B, 2, none⟩ = some (.int .i64 0) := fun a b X => (blk3 (set1 (set0 hblk))).2.2.1 X
      have e22 : ∀ a b X, (((w1.setCell ⟨B, 0, none⟩ a).setCell ⟨B, 1, none⟩ b).alloc X).frozen? ⟨B, 2, none⟩ = false := fun a b X => (blk3 (set1 (set0 hblk))).2.2.2.2.2 X
      clear hblk
      go_wp2_with (first | (go_at_call 64; refine (HLow.out _).mono ?_; rintro e w' ⟨rfl, rfl⟩) | (go_at_call 65; refine (HTurn.out _ (HT.out.below HBW.out HT.out.2)).mono ?_; rintro e w' ⟨rfl, rfl⟩) | (go_at_call 66; refine (HOnes.out _).mono ?_; rintro e w' ⟨rfl, rfl⟩))
      obtain ⟨f0, f1, f2, -, -, -⟩ := blk3 (set012 HBK.out (.int .i64 0) (.int .i64 0) (.int .i64 0))
      refine bodyPost_ret (v := shapeV (0, 0, 0)) (by simp [results, Tryd.results48, go_sem, f0, f1, f2]) rfl ⟨rfl, ?_⟩
      exact (below_set012 HBW.out HBN.out).alloc (by simpa using HBW.out.size) _
  · rw [if_neg c0]
    obtain ⟨r, hr, rfl⟩ := HTL'.out (by omega)
    rw [Int.toNat_natCast]
    have HMM : Hid (∀ w, Calls Tryd.prog 67 #[.agg #[.int .i64 s, .int .i64 r, .int .i64 o]] w (RetB (.int .u64 (maskN o r s)) w)) := Lib.hid fun w => HM.out o r s w hsz'.out (by omega) (by omega) hr
    have q0 : ((o : Int) == 0) = false := by rw [beq_eq_false_iff_ne]; omega
    have qs : ((o : Int) == (s : Int)) = false := by rw [beq_eq_false_iff_ne]; omega
    clear HM
    generalize maskN o r s = m at *
    by_cases c : m = v
    all_goals
      first | rw [if_pos c] | rw [if_neg c]
      first | (have qm : ((m : Int) != (v : Int)) = false := by (rw [c]; simp)) | (have qm : ((m : Int) != (v : Int)) = true := by (rw [bne_iff_ne]; omega))
      have HC := Lib.hid c
      clear c
      go_enter Tryd.func48, Tryd.ntmps48
      go_wp2_with fail
      refine (HSize.out _).mono ?_
      rintro e w1 ⟨rfl, hb1⟩
      obtain ⟨B, hB⟩ : ∃ B, B = w.heap.size := ⟨_, rfl⟩
      have hBl : B < w1.heap.size := by have := hb1.size; simp at this; omega
      have hblk : w1.heap[B]? = some (.cells #[.int .i64 0, .int .i64 0, .int .i64 0] 85 (0, 0)) := by
        rw [hb1.block B (by rw [hB]; simp), hB]; exact (MapKept.heap_alloc w _).1
      have HBW : Hid (Below w.heap.size w w1) := Lib.hid (((Below.refl w.heap.size w).alloc (Nat.le_refl _) _).trans (hb1.mono (by simp)))
      have HBN : Hid (w.heap.size ≤ B) := Lib.hid (by omega)
      clear hb1
      rw [← hB]
      clear hB
      have HBK := Lib.hid hblk
      clear hblk
      go_wp2_with (first | (go_at_call 64; refine (HLow.out _).mono ?_; rintro e w' ⟨rfl, rfl⟩) | (go_at_call 65; refine (HTurn.out _ (HT.out.below HBW.out HT.out.2)).mono ?_; rintro e w' ⟨rfl, rfl⟩) | (go_at_call 66; refine (HOnes.out _).mono ?_; rintro e w' ⟨rfl, rfl⟩))
      obtain ⟨X, hX⟩ : ∃ X : Obj, X = Obj.cells #[.int .i64 s, .int .i64 r, .int .i64 o] 85 := ⟨_, rfl⟩
      obtain ⟨M, hM⟩ : ∃ M, M = w1.heap.size := ⟨_, rfl⟩
      obtain ⟨w2, hw2⟩ : ∃ w2, w2 = w1.alloc X := ⟨_, rfl⟩
      have m1 : w2.heap[M]? = some (.cells #[.int .i64 s, .int .i64 r, .int .i64 o] 85 (0, 0)) := by rw [hw2, hM, hX]; exact (MapKept.heap_alloc w1 _).1
      have b1 : w2.heap[B]? = some (.cells #[.int .i64 0, .int .i64 0, .int .i64 0] 85 (0, 0)) := by rw [hw2]; exact (Below.heap_alloc _ _ _ hBl).trans HBK.out
      have HB2 : Hid (Below w.heap.size w w2) := Lib.hid (by rw [hw2]; exact HBW.out.alloc HBW.out.size X)
      rw [← hX, ← hw2, ← hM]
      clear hX hM hw2
      refine (HMM.out _).mono ?_
      rintro e w3 ⟨rfl, hb3⟩
      have m3 : w3.heap[M]? = some (.cells #[.int .i64 s, .int .i64 r, .int .i64 o] 85 (0, 0)) := (hb3.block M (lt_of_block m1)).trans m1
      have b3 : w3.heap[B]? = some (.cells #[.int .i64 0, .int .i64 0, .int .i64 0] 85 (0, 0)) := (hb3.block B (lt_of_block b1)).trans b1
      have HB3 : Hid (Below w.heap.size w w3) := Lib.hid (after HB2.out hb3)
      obtain ⟨g0, g1, g2, -, -, -⟩ := blk0 m3
      obtain ⟨d0, d1, d2, e0, e1, e2⟩ := blk0 b3
      have B3 := Lib.hid b3
      clear m1 b1 hb3 m3 b3 HB2
      go_wp2
      first
      | (obtain ⟨f0, f1, f2, -, -, -⟩ := blk0 (set012 B3.out (.int .i64 0) (.int .i64 0) (.int .i64 0))
         refine bodyPost_ret (v := shapeV (0, 0, 0)) (by simp [results, Tryd.results48, go_sem, f0, f1, f2]) rfl ⟨rfl, below_set012 HB3.out HBN.out⟩)
      | (obtain ⟨f0, f1, f2, -, -, -⟩ := blk0 (set012 B3.out (.int .i64 s) (.int .i64 r) (.int .i64 o))
         refine bodyPost_ret (v := shapeV (s, r, o)) (by simp [results, Tryd.results48, go_sem, f0, f1, f2]) rfl ⟨rfl, below_set012 HB3.out HBN.out⟩)

set_option maxHeartbeats 400000 in
theorem Is_any (v : Nat) (w : World) (hv : v < 18446744073709551616) (hT : Tab w) :
    Calls Tryd.prog 38 #[.int .u64 v] w (RetB (.bool (isS v)) w) := by
  rcases pat_or v hv with ⟨k, r, s, h⟩ | hn
  · have hp := h.pos
    rw [h.isS]
    have HF : Hid (Calls Tryd.prog 48 #[.int .u64 v] w (RetB (shapeV (s, r, k)) w)) := Lib.hid (by have := find_any v w hv hT; rwa [h.findS] at this)
    have q : ((s : Int) == 0) = false := by rw [beq_eq_false_iff_ne]; omega
    clear h hT
    go_enter Tryd.func38, Tryd.ntmps38
    go_wp2_with fail
    refine HF.out.mono ?_
    rintro e w1 ⟨rfl, hb⟩
    have HB := Lib.hid hb
    clear hb
    go_wp2
    go_ret
    exact ⟨rfl, HB.out⟩
  · rw [isS_none hv hn]
    have HF : Hid (Calls Tryd.prog 48 #[.int .u64 v] w (RetB (shapeV (0, 0, 0)) w)) := Lib.hid (by have := find_any v w hv hT; rwa [findS_none hv hn] at this)
    clear hn hT
    go_enter Tryd.func38, Tryd.ntmps38
    go_wp2_with fail
    refine HF.out.mono ?_
    rintro e w1 ⟨rfl, hb⟩
    have HB := Lib.hid hb
    clear hb
    go_wp2
    go_ret
    exact ⟨rfl, HB.out⟩

abbrev four (p : Int × Int × Int × Int) : Value := .tuple #[.int .i64 p.1, .int .i64 p.2.1, .int .i64 p.2.2.1, .int .i64 p.2.2.2]
theorem upper_b (s : Int) : 0 ≤ upperS s ∧ upperS s ≤ 1 := by unfold upperS; split <;> omega
theorem lead_b (s : Int) (h : 2 ≤ s) (h2 : s ≤ 64) : -64 ≤ leadS s ∧ leadS s ≤ 60 := by unfold leadS; split <;> omega

end Go.Proofs.YtkcgnmicaigjfaaDoor
