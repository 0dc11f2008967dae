/- The reference's Ops; the law InstNamed, walked. -/
import Derived.Test.YtjnmkelppjcofaaDoorJ8
namespace Go.Proofs.YtjnmkelppjcofaaDoor
set_option linter.unusedVariables false
set_option linter.unusedSimpArgs false
open Go.RowKit

set_option maxRecDepth 100000 in
set_option maxHeartbeats 1000000 in
theorem ROps_any (x : ByteArray) (w : World) : Calls Tryd.prog 22 #[.string x] w (RetL (opsL x) w) := by
  obtain ⟨i0, hi, hz0, hz1, hz2⟩ := info_parts infoI
  have HO : Hid (opsL x = opsK nmB x 40) := Lib.hid rfl
  go_enter Tryd.func22, Tryd.ntmps22
  go_wp2_with fail
  refine (Rnames_any w).mono ?_
  rintro e w1 ⟨rfl, hb, hlt, hc⟩
  have HB1 := Lib.hid hb
  have HC := Lib.hid hc
  have hs1 : w.heap.size < w1.heap.size := hlt
  obtain ⟨X, hX⟩ : ∃ X, X = w.heap.size := ⟨_, rfl⟩
  rw [← hX] at HC
  have hXl : X < w1.heap.size := by rw [hX]; exact hlt
  clear hb hc hlt
  go_wp2
  rw [← hX]
  clear hX
  go_loopw [3, 5] (fun v i wl => ∃ (k : Nat), 1 ≤ k ∧ k ≤ 40 ∧ i = .int .i64 k ∧ wl.ownsRow w1.heap.size 3 1 v (opsK nmB x k).length ((opsK nmB x k).flatMap encI) ∧ Below w1.heap.size w1 wl) (fun _ i _ => 40 - (intOf i).toNat)
  case atStart => exact ⟨1, by omega, by omega, rfl, World.ownsRow_nil _ _ _ _, Below.refl _ _⟩
  case round =>
    obtain ⟨k, hk1, hk, rfl, hown, hb⟩ := hrel
    have hbs := hb.size
    have HOWN := Lib.hid hown
    clear hown
    by_cases hlt : k < 40
    · have hcell : wr.cell? ⟨X, k, none⟩ = some (.string (nmB k)) := (hb.cell (p := ⟨X, k, none⟩) hXl).trans (HC.out k hlt)
      have hm : (opsK nmB x k).length + 1 ≤ maxLen := by have := opsK_len nmB x k; unfold maxLen; omega
      have hby : ((opsK nmB x k).length + 1) * 8 ≤ 140737488355328 := by have := opsK_len nmB x k; omega
      cases hf : ((nmB k).toList == x.toList)
      · have HE := Lib.hid (opsK_no hf)
        generalize nmB k = nn at *
        clear hm hby
        go_wp2
        go_roundw
        case rel => exact ⟨k + 1, by omega, by omega, by go_num, by rw [HE.out]; exact HOWN.out, hb⟩
        case measure => simp [intOf]; omega
      · have HE := Lib.hid (opsK_yes hk1 hf)
        generalize nmB k = nn at *
        generalize opsK nmB x k = acc at *
        go_wp2_with (at_builtin; refine wpList_append_own _ rfl _ _ 30 rfl w1.heap.size 3 i0 (.int .i64 0) 1 8 Tryd.underlying30 hi hz0 hz1 hz2 rfl (by decide) _ acc.length (acc.flatMap encI) rfl (HOWN.out.alloc _) ⟨wr.heap.size, 0, none⟩ 1 1 [.int .i64 k] rfl rfl (cell_one_new' _ _ _) (one_one' _) hm hby (by simp; omega) ?_; intro v' w2 hown2 hgrow2 hiff)
        go_roundw
        case rel =>
          refine ⟨k + 1, by omega, by omega, by go_num, ?_, (hb.alloc hbs _).grown hgrow2 (by simp; omega) (fun j hj => by have := (HOWN.out.lt j hj).1; omega)⟩
          rw [HE.out, List.flatMap_append, List.length_append]
          exact hown2
        case measure => simp [intOf]; omega
    · obtain rfl : k = 40 := by omega
      go_wp2
      go_ret
      obtain ⟨a', c', rfl, hsl, hnil⟩ := SL.ofOwns encI_len (by omega) HOWN.out
      rw [← HO.out] at *
      exact ⟨a', c', rfl, hsl, hnil, HB1.out.trans (hb.mono HB1.out.size)⟩

set_option maxRecDepth 100000 in
set_option maxHeartbeats 8000000 in
theorem InstNamed_walk (op : Int) (hop : -9223372036854775808 ≤ op ∧ op ≤ 9223372036854775807) (x : ByteArray) (hx : x.size ≤ maxLen) (w : World) (hw : Tab5 w) :
    Calls Tryd.prog 4 #[.int .i64 op, .string x] w (RetB (.bool true) w) := by
  have HT := Lib.hid hw
  have HB := Lib.hid (Below.refl w.heap.size w)
  have HC : Hid (∀ w, Tab5 w → Calls Tryd.prog 11 #[] w (RetB (.bool true) w)) := Lib.hid fun w h => shaped_any w h
  obtain ⟨nm, er, HN, HRN⟩ : ∃ (nm : ByteArray) (er : Int), Hid (∀ w, Tab5 w → Calls Tryd.prog 17 #[.int .i64 op] w (Ret (.tuple #[.string nm, .int .i64 er]) w)) ∧ Hid (∀ w, Calls Tryd.prog 18 #[.int .i64 op] w (RetB (.tuple #[.string nm, .int .i64 er]) w)) :=
    ⟨_, _, Lib.hid fun w h => Name_any op w h, Lib.hid fun w => RName_any op w⟩
  have HSh : Hid (∀ w, Tab5 w → Calls Tryd.prog 19 #[.int .i64 op] w (Ret (.int .i64 (shapeI op)) w)) := Lib.hid fun w h => Shape_any op w h.1
  have HRS : Hid (∀ w, Calls Tryd.prog 20 #[.int .i64 op] w (RetB (.int .i64 (shapeI op)) w)) := Lib.hid fun w => RShape_any op w
  have HO1 : Hid (∀ w, Tab5 w → Calls Tryd.prog 21 #[.string x] w (RetL (opsL x) w)) := Lib.hid fun w h => Ops_any _ w h
  have HO2 : Hid (∀ w, Calls Tryd.prog 22 #[.string x] w (RetL (opsL x) w)) := Lib.hid fun w => ROps_any _ w
  have hl := opsL_len x
  generalize opsL x = l at *
  generalize shapeI op = s at *
  have HSame : Hid (∀ w a c a' c', SL encI 1 w w.heap.size a l.length l → SL encI 1 w w.heap.size a' l.length l → Calls Tryd.prog 14 #[.slice a l.length c, .slice a' l.length c'] w (RetB (.bool true) w)) := Lib.hid fun w a c a' c' h h' => by
    have := Same_any a a' _ _ c c' l l w (by omega) (by omega) h h'
    rwa [decide_eq_true rfl] at this
  generalize hn : l.length = n at *
  clear hw hx hop
  go_enter Tryd.func4, Tryd.ntmps4
  go_wp2_with (first
    | (go_at_call 17; ((with_reducible refine (HN.out _ HT.out).mono ?_); rintro e w' ⟨rfl, rfl⟩))
    | (go_at_call 18; ((with_reducible refine (HRN.out _).mono ?_); rintro e w' ⟨rfl, hb⟩; replace HB := Lib.hid (after HB.out hb); clear hb))
    | (go_at_call 11; ((with_reducible refine (HC.out _ (HT.out.below HB.out)).mono ?_); rintro e w' ⟨rfl, hb⟩; replace HB := Lib.hid (after HB.out hb); clear hb))
    | (go_at_call 19; ((with_reducible refine (HSh.out _ (HT.out.below HB.out)).mono ?_); rintro e w' ⟨rfl, rfl⟩))
    | (go_at_call 20; ((with_reducible refine (HRS.out _).mono ?_); rintro e w' ⟨rfl, hb⟩; replace HB := Lib.hid (after HB.out hb); clear hb))
    | (go_at_call 21; ((with_reducible refine (HO1.out _ (HT.out.below HB.out)).mono ?_); rintro e w1 ⟨a1, c1, rfl, hsl, hnil, hb⟩; rw [hn] at hsl ⊢; replace HB := Lib.hid (after HB.out hb); have HS1 := Lib.hid hsl; clear hb hsl hnil))
    | (go_at_call 22; ((with_reducible refine (HO2.out _).mono ?_); rintro e w2 ⟨a2, c2, rfl, hsl, hnil, hb⟩; rw [hn] at hsl ⊢; replace HB := Lib.hid (after HB.out hb); replace HS1 := Lib.hid (HS1.out.next hb); have HS2 := Lib.hid hsl; clear hb hsl hnil))
    | (go_at_call 14; ((with_reducible refine (HSame.out _ _ _ _ _ HS1.out HS2.out).mono ?_); rintro e w' ⟨rfl, hb⟩; replace HB := Lib.hid (after HB.out hb); clear hb)))
  go_ret
  exact retB_bool rfl HB.out
end Go.Proofs.YtjnmkelppjcofaaDoor
