/- The reference's Reads, whole; the law InstDoes, walked. -/
import Derived.Test.YtjnmkelppjcofaaDoorD8
import Derived.Test.YtjnmkelppjcofaaDoorD6
import Derived.Deep.RegionHeld3
namespace Go.Proofs.YtjnmkelppjcofaaDoor
set_option linter.unusedVariables false
set_option linter.unusedSimpArgs false
open Go.RowKit

set_option maxHeartbeats 1000000 in
theorem RReads_no (i : In) (w : World) (hi : InB i) (hf : isI i = false) : Calls Tryd.prog 16 #[inV i] w (RetL [] w) := by
  have HIs : Hid (∀ w, Calls Tryd.prog 13 #[inV i] w (RetB (.bool false) w)) := Lib.hid fun w => by have := RIs_any i hi w; rwa [hf] at this
  obtain ⟨o, d, n, m, a, x, k, h, t, c⟩ := i
  have HBA := Lib.hid ((Below.refl w.heap.size w).alloc (Nat.le_refl _) (.cells (inC ⟨o, d, n, m, a, x, k, h, t, c⟩) 24))
  clear hf hi
  go_enter Tryd.func16, Tryd.ntmps16
  go_wp2_with fail
  refine (HIs.out _).mono ?_
  rintro e w1 ⟨rfl, hb⟩
  have HB := Lib.hid (after HBA.out hb)
  clear hb
  go_wp2
  go_ret
  exact ⟨none, 0, rfl, SL.nil _ _ _, fun _ => ⟨rfl, rfl⟩, HB.out⟩
theorem RReads_any (i : In) (w : World) (hi : InB i) : Calls Tryd.prog 16 #[inV i] w (RetL (readsI i) w) := by
  cases hb : isI i
  · have : readsI i = [] := by unfold readsI; rw [hb]; rfl
    rw [this]
    exact RReads_no i w hi hb
  · have hs := shapeI_b i.op
    obtain ⟨s, hs2⟩ := Int.eq_ofNat_of_zero_le hs.1
    rw [← readsR_eq i hb]
    exact RReads_yes i w s (by omega) hs2 hi hb
theorem readsI_len9 (i : In) : (readsI i).length ≤ 32 := by
  unfold readsI
  split
  · exact riseK_len _ 32
  · simp

set_option maxRecDepth 100000 in
set_option maxHeartbeats 16000000 in
theorem InstDoes_walk (i : In) (hi : InB i) (w : World) (hw : Tab5 w) : Calls Tryd.prog 3 #[inV i] w (RetB (.bool true) w) := by
  have HT := Lib.hid hw
  have HC : Hid (∀ w, Tab5 w → Calls Tryd.prog 11 #[] w (RetB (.bool true) w)) := Lib.hid fun w h => shaped_any w h
  have HIs : Hid (∀ w, Tab5 w → Calls Tryd.prog 12 #[inV i] w (RetB (.bool (isI i)) w)) := Lib.hid fun w h => InstIs_any i w h.1 hi
  have HRI : Hid (∀ w, Calls Tryd.prog 13 #[inV i] w (RetB (.bool (isI i)) w)) := Lib.hid fun w => RIs_any i hi w
  obtain ⟨d0, ok0, HWr, HRW⟩ : ∃ (d0 : Int) (ok0 : Bool), Hid (∀ w, Tab5 w → Calls Tryd.prog 9 #[inV i] w (RetB (.tuple #[.int .i64 d0, .bool ok0]) w)) ∧ Hid (∀ w, Calls Tryd.prog 10 #[inV i] w (RetB (.tuple #[.int .i64 d0, .bool ok0]) w)) :=
    ⟨(writesI i).1, (writesI i).2, Lib.hid fun w h => Writes_any i w h.1 hi, Lib.hid fun w => RWrites_any i w hi⟩
  have HRd : Hid (∀ w, Tab5 w → Calls Tryd.prog 15 #[inV i] w (RetL (readsI i) w)) := Lib.hid fun w h => Reads_any i w h.1 hi
  have HRR : Hid (∀ w, Calls Tryd.prog 16 #[inV i] w (RetL (readsI i) w)) := Lib.hid fun w => RReads_any i w hi
  have hl := readsI_len9 i
  generalize readsI i = l at *
  generalize isI i = b at *
  have HSame : Hid (∀ w a c a' c', SL encI 1 w w.heap.size a l.length l → SL encI 1 w w.heap.size a' l.length l → Calls Tryd.prog 14 #[.slice a l.length c, .slice a' l.length c'] w (RetB (.bool true) w)) := Lib.hid fun w a c a' c' h h' => by
    have := Same_any a a' _ _ c c' l l w (by omega) (by omega) h h'
    rwa [decide_eq_true rfl] at this
  generalize hn : l.length = n0 at *
  obtain ⟨o, d, n, m, a, x, k, h, t, c⟩ := i
  obtain ⟨X, hX⟩ : ∃ X, X = w.heap.size := ⟨_, rfl⟩
  obtain ⟨W0, hW0⟩ : ∃ W0, W0 = w.alloc (.cells (inC ⟨o, d, n, m, a, x, k, h, t, c⟩) 24) := ⟨_, rfl⟩
  have hten := Ten.made w ⟨o, d, n, m, a, x, k, h, t, c⟩ 24
  have hXl : X < W0.heap.size := by rw [hX, hW0]; simp
  rw [← hW0, ← hX] at hten
  have HW : Hid (Below w.heap.size w W0) := Lib.hid (by rw [hW0]; exact (Below.refl _ w).alloc (Nat.le_refl _) _)
  have HA := Lib.hid hten
  have HB := Lib.hid (Below.refl W0.heap.size W0)
  have HEQ := Lib.hid hW0
  have HXQ := Lib.hid hX
  have HTT : Hid (∀ wx, Below W0.heap.size W0 wx → Tab5 wx) := Lib.hid fun wx hb => HT.out.below (HW.out.trans (hb.mono HW.out.size))
  clear hw hi hX hW0 hten hl
  go_enter Tryd.func3, Tryd.ntmps3
  go_wp2_with fail
  rw [← HEQ.out, ← HXQ.out]
  refine (HWr.out _ (HTT.out _ HB.out)).mono ?_
  rintro e w1 ⟨rfl, hb⟩
  replace HB := Lib.hid (after HB.out hb)
  clear hb
  obtain ⟨a0, a1, a2, a3, a4, a5, a6, a7, a8, a9⟩ := HA.out.below HB.out hXl
  go_wp2_with (go_at_call 10; ((with_reducible refine (HRW.out _).mono ?_); rintro e w2 ⟨rfl, hb⟩; replace HB := Lib.hid (after HB.out hb); clear hb; clear a0 a1 a2 a3 a4 a5 a6 a7 a8 a9; obtain ⟨a0, a1, a2, a3, a4, a5, a6, a7, a8, a9⟩ := HA.out.below HB.out hXl))
  have hx4 : Below W0.heap.size W0 w2.drew := HB.out.drew
  go_region_held3 (fun w' => w'.cell? ⟨X, 0, none⟩ = some (.int .i64 o) ∧ w'.cell? ⟨X, 1, none⟩ = some (.int .i64 d) ∧ w'.cell? ⟨X, 2, none⟩ = some (.int .i64 n) ∧ w'.cell? ⟨X, 3, none⟩ = some (.int .i64 m) ∧ w'.cell? ⟨X, 4, none⟩ = some (.int .i64 a) ∧ w'.cell? ⟨X, 5, none⟩ = some (.int .i64 x) ∧ w'.cell? ⟨X, 6, none⟩ = some (.int .u64 k) ∧ w'.cell? ⟨X, 7, none⟩ = some (.int .i64 h) ∧ w'.cell? ⟨X, 8, none⟩ = some (.int .i64 t) ∧ w'.cell? ⟨X, 9, none⟩ = some (.int .i64 c))
    (first
      | go_keep
      | exact HA.out.below (C := W0.heap.size) (by assumption) hXl)
    ((first
      | (go_at_call 11; refine (HC.out _ (HTT.out _ hx4)).mono ?_; rintro e w' ⟨rfl, hb⟩; have hx5 := after hx4 hb; clear hb)
      | (go_at_call 12; refine (HIs.out _ (HTT.out _ hx5)).mono ?_; rintro e w' ⟨rfl, hb⟩; have hx6 := after hx5 hb; clear hb)
      | (go_at_call 13; refine (HRI.out _).mono ?_; rintro e w' ⟨rfl, hb⟩; have hx7 := after hx6 hb; clear hb)
      | (go_at_call 15; refine (HRd.out _ (HTT.out _ hx7)).mono ?_; rintro e w' ⟨p1, c1, rfl, hsl, hnil, hb⟩; rw [hn] at hsl ⊢; have HS1 := Lib.hid hsl; have hx8 := after hx7 hb; clear hb hsl hnil)
      | (go_at_call 16; refine (HRR.out _).mono ?_; rintro e w' ⟨p2, c2, rfl, hsl, hnil, hb⟩; rw [hn] at hsl ⊢; have HS2 := Lib.hid hsl; have HS3 := Lib.hid (HS1.out.next hb); have hx9 := after hx8 hb; clear hb hsl hnil)
      | (go_at_call 14; refine (HSame.out _ _ _ _ _ HS3.out HS2.out).mono ?_; rintro e w' ⟨rfl, hb⟩; have hx10 := after hx9 hb; clear hb)))
  all_goals
    go_wp2
    go_ret
    exact retB_bool (by simp) (HW.out.trans (hx10.mono HW.out.size))
end Go.Proofs.YtjnmkelppjcofaaDoor
