/- inst.rising, inst.Ops. -/
import Derived.Test.YtjnmkelppjcofaaDoorJ1
namespace Go.Proofs.YtjnmkelppjcofaaDoor
set_option linter.unusedVariables false
set_option linter.unusedSimpArgs false
open Go.RowKit

set_option maxRecDepth 100000 in
set_option maxHeartbeats 1000000 in
theorem rising_any (f : Nat → Bool) (w : World) : Calls Tryd.prog 40 #[.agg (boolsL f).toArray] w (RetL (riseL f) w) := by
  obtain ⟨i0, hi, hz0, hz1, hz2⟩ := info_parts infoI
  have HR : Hid ((w.alloc (.cells (boolsL f).toArray 47)).rangeAt w.heap.size 0 (boolsL f)) := Lib.hid (range_bools f _ _ _ (0, 0) (MapKept.heap_alloc w _).1)
  have HA : Hid (∀ k, k < 32 → (boolsL f).toArray[k]? = some (.bool (f k))) := Lib.hid fun k hk => by rw [List.getElem?_toArray]; exact boolsL_at f k hk
  have HZ := Lib.hid (size_bools f)
  obtain ⟨B, hBd⟩ : ∃ B, B = boolsL f := ⟨_, rfl⟩
  rw [← hBd] at HR HA HZ ⊢
  clear hBd
  go_enter Tryd.func40, Tryd.ntmps40
  go_wp2_with (refine wpList_load_mid rfl 47 _ rfl w.heap.size 0 rfl B _ HR.out Tryd.underlying47 rfl HZ.out ?_)
  obtain ⟨W1, hW1⟩ : ∃ W1, W1 = w.alloc (.cells B.toArray 47) := ⟨_, rfl⟩
  have hb0 : Below w.heap.size w W1 := by rw [hW1]; exact (Below.refl _ w).alloc (Nat.le_refl _) _
  rw [← hW1] at HR ⊢
  clear hW1
  go_loopw [3, 7] (fun v i wl => ∃ (k : Nat), k ≤ 32 ∧ i = .int .i64 k ∧ wl.ownsRow w.heap.size 3 1 v (riseK f k).length ((riseK f k).flatMap encI) ∧ Below w.heap.size w wl) (fun _ i _ => 32 - (intOf i).toNat)
  case atStart => exact ⟨0, by omega, rfl, World.ownsRow_nil _ _ _ _, hb0⟩
  case round =>
    clear hb0
    obtain ⟨k, hk, rfl, hown, hb⟩ := hrel
    have hbs := hb.size
    have HOWN := Lib.hid hown
    clear hown
    by_cases hlt : k < 32
    · have hcell := HA.out k hlt
      have hcell2 := hcell
      rw [List.getElem?_toArray] at hcell2
      have hidx := idx_bools B k _ wr hlt (HA.out k hlt)
      have hm : (riseK f k).length + 1 ≤ maxLen := by have := riseK_len f k; unfold maxLen; omega
      have hby : ((riseK f k).length + 1) * 8 ≤ 140737488355328 := by have := riseK_len f k; omega
      cases hf : f k
      · have HE := Lib.hid (riseK_no hf)
        rw [hf] at hidx
        clear hf hm hby
        go_wp2
        go_roundw
        case rel => exact ⟨k + 1, by omega, by go_num, by rw [HE.out]; exact HOWN.out, hb⟩
        case measure => simp [intOf]; omega
      · have HE := Lib.hid (riseK_yes hf)
        rw [hf] at hidx
        clear hf
        generalize riseK f k = acc at *
        go_wp2_with (at_builtin; refine wpList_append_own _ rfl _ _ 30 rfl w.heap.size 3 i0 (.int .i64 0) 1 8 Tryd.underlying30 hi hz0 hz1 hz2 rfl (by decide) _ acc.length (acc.flatMap encI) rfl (HOWN.out.alloc _) ⟨wr.heap.size, 0, none⟩ 1 1 [.int .i64 k] rfl rfl (cell_one_new' _ _ _) (one_one' k) hm hby (by simp; omega) ?_; intro v' w2 hown2 hgrow2 hiff)
        go_roundw
        case rel =>
          refine ⟨k + 1, by omega, by go_num, ?_, (hb.alloc hbs _).grown hgrow2 (by simp; omega) (fun j hj => by have := (HOWN.out.lt j hj).1; omega)⟩
          rw [HE.out, List.flatMap_append, List.length_append]
          exact hown2
        case measure => simp [intOf]; omega
    · obtain rfl : k = 32 := by omega
      go_wp2
      go_ret
      obtain ⟨a', c', rfl, hsl, hnil⟩ := SL.ofOwns encI_len (by omega) HOWN.out
      exact ⟨a', c', rfl, hsl, hnil, hb⟩

def opsK (nm : Nat → ByteArray) (x : ByteArray) (k : Nat) : List Int := ((List.range k).filter fun j => decide (1 ≤ j) && ((nm j).toList == x.toList)).map Int.ofNat
def opsL (x : ByteArray) : List Int := opsK nmB x 40
theorem opsK_yes {nm : Nat → ByteArray} {x : ByteArray} {k : Nat} (h1 : 1 ≤ k) (h : ((nm k).toList == x.toList) = true) : opsK nm x (k + 1) = opsK nm x k ++ [(k : Int)] := by
  simp only [opsK, List.range_succ, List.filter_append, List.map_append]; rw [List.filter_cons_of_pos (by rw [h, decide_eq_true h1]; rfl)]; rfl
theorem opsK_no {nm : Nat → ByteArray} {x : ByteArray} {k : Nat} (h : ((nm k).toList == x.toList) = false) : opsK nm x (k + 1) = opsK nm x k := by
  simp only [opsK, List.range_succ, List.filter_append, List.map_append]; rw [List.filter_cons_of_neg (by rw [h]; simp)]; simp
theorem opsK_len (nm : Nat → ByteArray) (x : ByteArray) (k : Nat) : (opsK nm x k).length ≤ k := by
  simp only [opsK, List.length_map]; exact Nat.le_trans (List.length_filter_le _ _) (by simp)

set_option maxRecDepth 100000 in
set_option maxHeartbeats 1000000 in
theorem Ops_any (x : ByteArray) (w : World) (hw : Tab5 w) : Calls Tryd.prog 21 #[.string x] w (RetL (opsL x) w) := by
  obtain ⟨i0, hi, hz0, hz1, hz2⟩ := info_parts infoI
  have HT := Lib.hid hw
  clear hw
  have HO : Hid (opsL x = opsK nmB x 40) := Lib.hid rfl
  go_enter Tryd.func21, Tryd.ntmps21
  go_wp2
  go_loopw [3, 4] (fun v i wl => ∃ (k : Nat), 1 ≤ k ∧ k ≤ 40 ∧ i = .int .i64 k ∧ wl.ownsRow w.heap.size 3 1 v (opsK nmB x k).length ((opsK nmB x k).flatMap encI) ∧ Below w.heap.size w wl) (fun _ i _ => 40 - (intOf i).toNat)
  case atStart => exact ⟨1, by omega, by omega, rfl, World.ownsRow_nil _ _ _ _, Below.refl _ _⟩
  case round =>
    obtain ⟨k, hk1, hk, rfl, hown, hb⟩ := hrel
    have hbs := hb.size
    have HOWN := Lib.hid hown
    clear hown
    by_cases hlt : k < 40
    · have hcell := (HT.out.below hb).2.1 k hlt
      have hm : (opsK nmB x k).length + 1 ≤ maxLen := by have := opsK_len nmB x k; unfold maxLen; omega
      have hby : ((opsK nmB x k).length + 1) * 8 ≤ 140737488355328 := by have := opsK_len nmB x k; omega
      cases hf : ((nmB k).toList == x.toList)
      · have HE := Lib.hid (opsK_no hf)
        generalize nmB k = nn at *
        clear hm hby
        go_wp2
        go_roundw
        case rel => exact ⟨k + 1, by omega, by omega, by go_num, by rw [HE.out]; exact HOWN.out, hb⟩
        case measure => simp [intOf]; omega
      · have HE := Lib.hid (opsK_yes hk1 hf)
        generalize nmB k = nn at *
        generalize opsK nmB x k = acc at *
        go_wp2_with (at_builtin; refine wpList_append_own _ rfl _ _ 30 rfl w.heap.size 3 i0 (.int .i64 0) 1 8 Tryd.underlying30 hi hz0 hz1 hz2 rfl (by decide) _ acc.length (acc.flatMap encI) rfl (HOWN.out.alloc _) ⟨wr.heap.size, 0, none⟩ 1 1 [.int .i64 k] rfl rfl (cell_one_new' _ _ _) (one_one' _) hm hby (by simp; omega) ?_; intro v' w2 hown2 hgrow2 hiff)
        go_roundw
        case rel =>
          refine ⟨k + 1, by omega, by omega, by go_num, ?_, (hb.alloc hbs _).grown hgrow2 (by simp; omega) (fun j hj => by have := (HOWN.out.lt j hj).1; omega)⟩
          rw [HE.out, List.flatMap_append, List.length_append]
          exact hown2
        case measure => simp [intOf]; omega
    · obtain rfl : k = 40 := by omega
      go_wp2
      go_ret
      obtain ⟨a', c', rfl, hsl, hnil⟩ := SL.ofOwns encI_len (by omega) HOWN.out
      rw [← HO.out] at *
      exact ⟨a', c', rfl, hsl, hnil, hb⟩
end Go.Proofs.YtjnmkelppjcofaaDoor
