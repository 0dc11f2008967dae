/- The law InstOwn, walked. -/
import Derived.Test.YtjnmkelppjcofaaDoorJ8
namespace Go.Proofs.YtjnmkelppjcofaaDoor
set_option linter.unusedVariables false
set_option linter.unusedSimpArgs false
open Go.RowKit

theorem markF_of {f : Nat → Bool} {n : Nat} {st : Bool} {j : Nat} (h : markF f n st j = true) : f j = true ∨ j = n := by
  unfold markF at h
  simp only [Bool.or_eq_true, Bool.and_eq_true, decide_eq_true_eq] at h
  rcases h with h | h
  · exact .inl h
  · exact .inr h.1
theorem readF_of {i : In} {j : Nat} (h : readF i j = true) : j = i.n.toNat ∨ j = i.m.toNat ∨ j = i.a.toNat ∨ j = i.d.toNat ∨ (i.op = 37 ∧ j = 0) := by
  unfold readF at h
  have key : ∀ {f : Nat → Bool}, (∀ j, f j = true → j = i.n.toNat ∨ j = i.m.toNat ∨ j = i.a.toNat) →
      (if i.op = 3 ∨ i.op = 23 ∨ i.op = 25 ∨ i.op = 32 ∨ i.op = 33 then markF f i.d.toNat false else if i.op = 37 then markF f 0 false else f) j = true → j = i.n.toNat ∨ j = i.m.toNat ∨ j = i.a.toNat ∨ j = i.d.toNat ∨ (i.op = 37 ∧ j = 0) := by
    intro f hf h
    by_cases c1 : i.op = 3 ∨ i.op = 23 ∨ i.op = 25 ∨ i.op = 32 ∨ i.op = 33
    · rw [if_pos c1] at h
      rcases markF_of h with h | h
      · rcases hf j h with h | h | h <;> simp [h]
      · simp [h]
    · rw [if_neg c1] at h
      by_cases c2 : i.op = 37
      · rw [if_pos c2] at h
        rcases markF_of h with h | h
        · rcases hf j h with h | h | h <;> simp [h]
        · simp [h, c2]
      · rw [if_neg c2] at h
        rcases hf j h with h | h | h <;> simp [h]
  refine key ?_ h
  have k1 : ∀ j, (if hasNb (shapeI i.op) then markF (fun _ => false) i.n.toNat (stackNb (shapeI i.op)) else fun _ => false) j = true → j = i.n.toNat := by
    intro j h
    split at h
    · rcases markF_of h with h | h
      · cases h
      · exact h
    · cases h
  intro j h
  split at h
  · rcases markF_of h with h | h
    · split at h
      · rcases markF_of h with h | h
        · exact .inl (k1 j h)
        · exact .inr (.inl h)
      · exact .inl (k1 j h)
    · exact .inr (.inr h)
  · split at h
    · rcases markF_of h with h | h
      · exact .inl (k1 j h)
      · exact .inr (.inl h)
    · exact .inl (k1 j h)
theorem riseL_mem {f : Nat → Bool} {v : Int} (h : v ∈ riseL f) : ∃ k : Nat, v = (k : Int) ∧ k < 32 ∧ f k = true := by
  unfold riseL riseK at h
  obtain ⟨k, hk, rfl⟩ := List.mem_map.1 h
  rw [List.mem_filter, List.mem_range] at hk
  exact ⟨k, rfl, hk.1, hk.2⟩
theorem riseL_rise (f : Nat → Bool) : (riseL f).Pairwise (· < ·) := by
  unfold riseL riseK
  rw [List.pairwise_map]
  refine List.Pairwise.filter _ (List.pairwise_lt_range.imp ?_)
  intro a b h
  exact Int.ofNat_lt.2 h
theorem readsI_mem {i : In} (hi : isI i = true) {v : Int} (h : v ∈ readsI i) : 0 ≤ v ∧ v ≤ 31 ∧ (memB [i.d, i.n, i.m, i.a] v = true ∨ (memB [i.d, i.n, i.m, i.a] v = false ∧ i.op = 37 ∧ v = 0)) := by
  unfold readsI at h
  rw [if_pos hi] at h
  obtain ⟨k, rfl, hk, hf⟩ := riseL_mem h
  obtain ⟨r0, r1, r2, r3, r4, r5, r6, r7⟩ := regs_of hi
  refine ⟨by omega, by omega, ?_⟩
  cases hm : memB [i.d, i.n, i.m, i.a] (k : Int)
  · right
    have hn : ¬ (k : Int) ∈ [i.d, i.n, i.m, i.a] := by rw [← memB_iff, hm]; decide
    simp only [List.mem_cons, List.mem_nil_iff, or_false, not_or] at hn
    rcases readF_of hf with h | h | h | h | ⟨h, h2⟩
    · omega
    · omega
    · omega
    · omega
    · exact ⟨rfl, h, by omega⟩
  · exact .inl rfl
theorem readsI_rise (i : In) : (readsI i).Pairwise (· < ·) := by
  unfold readsI
  split
  · exact riseL_rise _
  · exact List.Pairwise.nil
theorem readsI_len (i : In) : (readsI i).length ≤ 32 := by
  unfold readsI
  split
  · exact riseK_len _ 32
  · simp
theorem writesI_cases (i : In) : writesI i = (0, false) ∨ (writesI i = (30, true) ∧ (i.op = 30 ∨ i.op = 35)) ∨ (writesI i = (i.d, true) ∧ ¬ (i.op = 30 ∨ i.op = 35)) := by
  unfold writesI
  by_cases c1 : isI i = false ∨ i.op = 23 ∨ i.op = 25 ∨ i.op = 32 ∨ i.op = 33
  · rw [if_pos c1]; exact .inl rfl
  · rw [if_neg c1]
    by_cases c2 : i.op = 30 ∨ i.op = 35
    · rw [if_pos c2]; exact .inr (.inl ⟨rfl, c2⟩)
    · rw [if_neg c2]
      by_cases c3 : hasDb (shapeI i.op) = false ∨ (i.d = 31 ∧ stackDb i.op = false)
      · rw [if_pos c3]; exact .inl rfl
      · rw [if_neg c3]; exact .inr (.inr ⟨rfl, c2⟩)

set_option maxRecDepth 100000 in
set_option maxHeartbeats 8000000 in
theorem InstOwn_no (i : In) (hi : InB i) (w : World) (hw : Tab5 w) (hf : isI i = false) : Calls Tryd.prog 6 #[inV i] w (RetB (.bool true) w) := by
  have HT := Lib.hid hw
  have HC : Hid (∀ w, Tab5 w → Calls Tryd.prog 11 #[] w (RetB (.bool true) w)) := Lib.hid fun w h => shaped_any w h
  have HIs : Hid (∀ w, Tab5 w → Calls Tryd.prog 12 #[inV i] w (RetB (.bool false) w)) := Lib.hid fun w h => by have := InstIs_any i w h.1 hi; rwa [hf] at this
  have HWr : Hid (∀ w, Tab5 w → Calls Tryd.prog 9 #[inV i] w (RetB (.tuple #[.int .i64 0, .bool false]) w)) := Lib.hid fun w h => by
    have := Writes_any i w h.1 hi
    have e : writesI i = (0, false) := by unfold writesI; rw [if_pos (.inl hf)]
    rwa [e] at this
  have HRd : Hid (∀ w, Tab5 w → Calls Tryd.prog 15 #[inV i] w (RetN 0 [] w)) := Lib.hid fun w h => by
    have := Reads_any i w h.1 hi
    have e : readsI i = [] := by unfold readsI; rw [if_neg (by rw [hf]; decide)]
    rw [e] at this; exact this.mono fun _ _ h => h.toN rfl
  obtain ⟨o, d, n, m, a, x, k, h, t, c⟩ := i
  obtain ⟨X, hX⟩ : ∃ X, X = w.heap.size := ⟨_, rfl⟩
  obtain ⟨W0, hW0⟩ : ∃ W0, W0 = w.alloc (.cells (inC ⟨o, d, n, m, a, x, k, h, t, c⟩) 24) := ⟨_, rfl⟩
  have hten := Ten.made w ⟨o, d, n, m, a, x, k, h, t, c⟩ 24
  have hXl : X < W0.heap.size := by rw [hX, hW0]; simp
  rw [← hW0, ← hX] at hten
  have HW : Hid (Below w.heap.size w W0) := Lib.hid (by rw [hW0]; exact (Below.refl _ w).alloc (Nat.le_refl _) _)
  have HA := Lib.hid hten
  have HB := Lib.hid (Below.refl W0.heap.size W0)
  have HEQ := Lib.hid hW0
  have HXQ := Lib.hid hX
  clear hw hf hi hX hW0 hten
  go_enter Tryd.func6, Tryd.ntmps6
  go_wp2_with fail
  rw [← HEQ.out, ← HXQ.out]
  refine (HRd.out _ (HT.out.below HW.out)).mono ?_
  rintro e w1 ⟨a1, c1, rfl, hsl, hb⟩
  replace HB := Lib.hid (after HB.out hb)
  clear hb hsl
  obtain ⟨a0, a1', a2, a3, a4, a5, a6, a7, a8, a9⟩ := HA.out.below HB.out hXl
  go_wp2_with (first
    | (go_at_call 9; ((with_reducible refine (HWr.out _ (HT.out.below (HW.out.trans (HB.out.mono HW.out.size)))).mono ?_); rintro e w' ⟨rfl, hb⟩; replace HB := Lib.hid (after HB.out hb); clear hb; obtain ⟨b0, b1, b2, b3, b4, b5, b6, b7, b8, b9⟩ := HA.out.below HB.out hXl))
    | (go_at_call 12; ((with_reducible refine (HIs.out _ (HT.out.below (HW.out.trans (HB.out.mono HW.out.size)))).mono ?_); rintro e w' ⟨rfl, hb⟩; replace HB := Lib.hid (after HB.out hb); clear hb))
    | (go_at_call 11; ((with_reducible refine (HC.out _ (HT.out.below (HW.out.trans (HB.out.mono HW.out.size)))).mono ?_); rintro e w' ⟨rfl, hb⟩; replace HB := Lib.hid (after HB.out hb); clear hb)))
  go_ret
  exact retB_bool rfl (HW.out.trans (HB.out.mono HW.out.size))

set_option maxRecDepth 100000 in
set_option maxHeartbeats 16000000 in
theorem InstOwn_yes (i : In) (hi : InB i) (w : World) (hw : Tab5 w) (hf : isI i = true) : Calls Tryd.prog 6 #[inV i] w (RetB (.bool true) w) := by
  have HT := Lib.hid hw
  have HC : Hid (∀ w, Tab5 w → Calls Tryd.prog 11 #[] w (RetB (.bool true) w)) := Lib.hid fun w h => shaped_any w h
  have HIs : Hid (∀ w, Tab5 w → Calls Tryd.prog 12 #[inV i] w (RetB (.bool true) w)) := Lib.hid fun w h => by have := InstIs_any i w h.1 hi; rwa [hf] at this
  obtain ⟨d0, ok0, HWC, HWr⟩ : ∃ (d0 : Int) (ok0 : Bool), Hid ((d0 = 0 ∧ ok0 = false) ∨ (d0 = 30 ∧ ok0 = true ∧ (i.op = 30 ∨ i.op = 35)) ∨ (d0 = i.d ∧ ok0 = true ∧ ¬ (i.op = 30 ∨ i.op = 35))) ∧
      Hid (∀ w, Tab5 w → Calls Tryd.prog 9 #[inV i] w (RetB (.tuple #[.int .i64 d0, .bool ok0]) w)) := by
    refine ⟨(writesI i).1, (writesI i).2, Lib.hid ?_, Lib.hid fun w h => Writes_any i w h.1 hi⟩
    rcases writesI_cases i with h | ⟨h, h2⟩ | ⟨h, h2⟩ <;> rw [h]
    · exact .inl ⟨rfl, rfl⟩
    · exact .inr (.inl ⟨rfl, rfl, h2⟩)
    · exact .inr (.inr ⟨rfl, rfl, h2⟩)
  have HRd : Hid (∀ w, Tab5 w → Calls Tryd.prog 15 #[inV i] w (RetL (readsI i) w)) := Lib.hid fun w h => Reads_any i w h.1 hi
  have HLM : Hid (∀ v ∈ readsI i, 0 ≤ v ∧ v ≤ 31 ∧ (memB [i.d, i.n, i.m, i.a] v = true ∨ (memB [i.d, i.n, i.m, i.a] v = false ∧ i.op = 37 ∧ v = 0))) := Lib.hid fun v h => readsI_mem hf h
  have HLR := Lib.hid (readsI_rise i)
  have hl32 := readsI_len i
  generalize readsI i = l at *
  obtain ⟨o, d, n, m, a, x, k, h, t, c⟩ := i
  simp only [] at HWC HLM
  obtain ⟨X, hX⟩ : ∃ X, X = w.heap.size := ⟨_, rfl⟩
  obtain ⟨W0, hW0⟩ : ∃ W0, W0 = w.alloc (.cells (inC ⟨o, d, n, m, a, x, k, h, t, c⟩) 24) := ⟨_, rfl⟩
  have hten := Ten.made w ⟨o, d, n, m, a, x, k, h, t, c⟩ 24
  have hXl : X < W0.heap.size := by rw [hX, hW0]; simp
  rw [← hW0, ← hX] at hten
  have HW : Hid (Below w.heap.size w W0) := Lib.hid (by rw [hW0]; exact (Below.refl _ w).alloc (Nat.le_refl _) _)
  have HA := Lib.hid hten
  have HB := Lib.hid (Below.refl W0.heap.size W0)
  have HEQ := Lib.hid hW0
  have HXQ := Lib.hid hX
  clear hw hf hi hX hW0 hten
  go_enter Tryd.func6, Tryd.ntmps6
  go_wp2_with fail
  rw [← HEQ.out, ← HXQ.out]
  refine (HRd.out _ (HT.out.below HW.out)).mono ?_
  rintro e w1 ⟨p1, c1, rfl, hsl, hnil, hb⟩
  have HS := Lib.hid hsl
  replace HB := Lib.hid (after HB.out hb)
  have HBS := Lib.hid (Below.refl w1.heap.size w1)
  clear hb hsl hnil
  generalize hn1 : l.length = n1 at *
  have HN1 := Lib.hid hn1
  clear hn1
  obtain ⟨a0, a1, a2, a3, a4, a5, a6, a7, a8, a9⟩ := HA.out.below HB.out hXl
  go_wp2_with (first
    | (go_at_call 9; ((with_reducible refine (HWr.out _ (HT.out.below (HW.out.trans (HB.out.mono HW.out.size)))).mono ?_); rintro e w' ⟨rfl, hb⟩; replace HB := Lib.hid (after HB.out hb); replace HBS := Lib.hid (after HBS.out hb); clear hb; obtain ⟨b0, b1, b2, b3, b4, b5, b6, b7, b8, b9⟩ := HA.out.below HB.out hXl))
    | (go_at_call 12; ((with_reducible refine (HIs.out _ (HT.out.below (HW.out.trans (HB.out.mono HW.out.size)))).mono ?_); rintro e w' ⟨rfl, hb⟩; replace HB := Lib.hid (after HB.out hb); replace HBS := Lib.hid (after HBS.out hb); clear hb; obtain ⟨c0, cc1, c2, c3, c4, c5, c6, c7, c8, c9⟩ := HA.out.below HB.out hXl)))
  obtain ⟨W2, hW2⟩ : ∃ W2, W2 = w'.alloc (.cells #[.int .i64 d, .int .i64 n, .int .i64 m, .int .i64 a] 3) := ⟨_, rfl⟩
  have hb2 : Below w'.heap.size w' W2 := by rw [hW2]; exact (Below.refl _ _).alloc (Nat.le_refl _) _
  have HS2 := Lib.hid ((HS.out.next HBS.out).next hb2)
  have HO2 : Hid (SL encI 1 W2 W2.heap.size (some ⟨w'.heap.size, 0, none⟩) 4 [d, n, m, a]) := Lib.hid (by
    have := SL.lit w' 3 [d, n, m, a] encI_len (by decide) #[.int .i64 d, .int .i64 n, .int .i64 m, .int .i64 a] rfl 4 rfl
    rw [hW2]; exact this.up (by simp))
  replace HB := Lib.hid (after HB.out hb2)
  have hXl2 : X < W2.heap.size := Nat.lt_of_lt_of_le hXl HB.out.size
  have HA2 : Hid (Ten X ⟨o, d, n, m, a, x, k, h, t, c⟩ W2) := Lib.hid (HA.out.below HB.out hXl)
  rw [← hW2]
  obtain ⟨P, hP⟩ : ∃ P, P = w'.heap.size := ⟨_, rfl⟩
  rw [← hP] at HO2 ⊢
  clear hP hW2 hb2 HBS HS HIs HWr HRd HA HEQ HXQ a0 a1 a2 a3 a4 a5 a6 a7 a8 a9 c0 cc1 c2 c3 c4 c5 c6 c7 c8 c9
  go_loopw [7] (fun i wr => ∃ j : Nat, j ≤ n1 ∧ i = .int .i64 j ∧ Below W2.heap.size W2 wr) (fun i _ => n1 - (intOf i).toNat)
  case atStart => exact ⟨0, by omega, rfl, Below.refl _ _⟩
  case round =>
    obtain ⟨j, hj, rfl, hbw⟩ := hrel
    have HBW := Lib.hid hbw
    have hS2 := HS2.out.next hbw
    have HO3 := Lib.hid (HO2.out.next hbw)
    obtain ⟨a0, a1, a2, a3, a4, a5, a6, a7, a8, a9⟩ := HA2.out.below hbw hXl2
    clear hbw
    by_cases hlt2 : j < n1
    · have hj1 : j < l.length := by rw [HN1.out]; exact hlt2
      obtain ⟨b, off, rfl, hBb, hc⟩ := hS2.cells (hS2.ne (k := j) hlt2)
      have q0 := hc j hj1 0 (by omega)
      obtain ⟨y0, y1, hm⟩ := HLM.out _ (List.getElem_mem hj1)
      have hr : ∀ hj0 : 0 < j, l[j - 1]'(by omega) < l[j] := fun hj0 => by
        have := HLR.out
        rw [List.pairwise_iff_getElem] at this
        exact this (j - 1) j (by omega) hj1 (by omega)
      have cprev : ∀ hj0 : 0 < j, wr.cell? ⟨b, off + (j - 1), none⟩ = some (.int .i64 (l[j - 1]'(by omega))) := fun hj0 => by
        have := hc (j - 1) (by omega) 0 (by omega)
        simpa only [encI, Nat.add_zero, Nat.mul_one, List.getElem?_cons_zero] using this
      simp only [encI, Nat.add_zero, Nat.mul_one, List.getElem?_cons_zero] at q0
      generalize l[j] = y at *
      have HHas : Hid (∀ wx, (∃ n, wx = wr.drewN n) → Calls Tryd.prog 23 #[.slice (some ⟨P, 0, none⟩) 4 4, .int .i64 y] wx (Ret (.bool (memB [d, n, m, a] y)) wx)) := Lib.hid fun wx hx => by
        obtain ⟨n, rfl⟩ := hx
        exact has_any _ 4 4 _ _ _ (by decide) (HO3.out.next (below_refl_drewN _ _))
      generalize memB [d, n, m, a] y = bb at *
      have p1 : decide (y < 0) = false := by rw [decide_eq_false_iff_not]; omega
      have p2 : decide (31 < y) = false := by rw [decide_eq_false_iff_not]; omega
      by_cases j0 : j = 0
      · subst j0
        rw [Nat.add_zero] at q0
        have hn0 : 0 < n1 := hlt2
        clear hc hr cprev
        rcases hm with rfl | ⟨rfl, h37, hy0⟩
        · go_wp2
          go_quiet ((go_at_call 23; exact Calls.quiet_of_same ((HHas.out _ ⟨_, rfl⟩).mono fun e w' h => ⟨h.1, h.2.symm⟩)))
          go_wp2
          go_roundw
          case rel => exact ⟨1, by omega, rfl, below_drewN HBW.out _⟩
          case measure => simp [intOf]; omega
        · have p3 : (o != 37) = false := by rw [bne_eq_false_iff_eq]; exact h37
          have p4 : (y != 0) = false := by rw [bne_eq_false_iff_eq]; exact hy0
          clear h37 hy0
          go_wp2
          go_quiet ((go_at_call 23; exact Calls.quiet_of_same ((HHas.out _ ⟨_, rfl⟩).mono fun e w' h => ⟨h.1, h.2.symm⟩)))
          go_wp2
          go_roundw
          case rel => exact ⟨1, by omega, rfl, below_drewN HBW.out _⟩
          case measure => simp [intOf]; omega
      · obtain ⟨i, rfl⟩ : ∃ i, j = i + 1 := ⟨j - 1, by omega⟩
        have cm := cprev (by omega)
        have hrise := hr (by omega)
        simp only [Nat.add_sub_cancel] at cm hrise
        obtain ⟨z, hz⟩ : ∃ z, z = l[i]'(by omega) := ⟨_, rfl⟩
        rw [← hz] at cm hrise
        have g1 : decide (y ≤ z) = false := by rw [decide_eq_false_iff_not]; omega
        clear hc hr cprev hz hrise j0
        have e1 : ((i : Int) + 1 - 1) = i := by omega
        have e2 : IntKind.i64.wrap ((i : Int) + 1 - 1) = i := by rw [e1]; exact IntWalk.i64_in _ (by omega)
        have e3 : (0 : Int) ≤ i := by omega
        have e4 : i < n1 := by omega
        have e5 : i + 1 < n1 := hlt2
        have g3 : decide ((0 : Int) < (i : Int) + 1) = true := by rw [decide_eq_true_iff]; omega
        rcases hm with rfl | ⟨rfl, h37, hy0⟩
        · go_wp2
          go_quiet ((go_at_call 23; exact Calls.quiet_of_same ((HHas.out _ ⟨_, rfl⟩).mono fun e w' h => ⟨h.1, h.2.symm⟩)))
          go_wp2
          go_roundw
          case rel => exact ⟨i + 1 + 1, by omega, by go_num, below_drewN HBW.out _⟩
          case measure => simp [intOf]; omega
        · have p3 : (o != 37) = false := by rw [bne_eq_false_iff_eq]; exact h37
          have p4 : (y != 0) = false := by rw [bne_eq_false_iff_eq]; exact hy0
          clear h37 hy0
          go_wp2
          go_quiet ((go_at_call 23; exact Calls.quiet_of_same ((HHas.out _ ⟨_, rfl⟩).mono fun e w' h => ⟨h.1, h.2.symm⟩)))
          go_wp2
          go_roundw
          case rel => exact ⟨i + 1 + 1, by omega, by go_num, below_drewN HBW.out _⟩
          case measure => simp [intOf]; omega
    · clear hS2
      replace HB := Lib.hid (after HB.out HBW.out)
      rcases HWC.out with ⟨rfl, rfl⟩ | ⟨rfl, rfl, ho⟩ | ⟨rfl, rfl, ho⟩
      · cases p30 : (o == 30) <;> cases p35 : (o == 35)
        all_goals
          go_wp2_with (go_at_call 11; ((with_reducible refine (HC.out _ (HT.out.below (HW.out.trans (HB.out.mono HW.out.size)))).mono ?_); rintro e w' ⟨rfl, hb⟩; replace HB := Lib.hid (after HB.out hb); replace HBW := Lib.hid (after HBW.out hb); clear hb; obtain ⟨b0, b1, b2, b3, b4, b5, b6, b7, b8, b9⟩ := HA2.out.below HBW.out hXl2))
          go_ret
          exact retB_bool rfl (HW.out.trans (HB.out.mono HW.out.size))
      · cases p30 : (o == 30) <;> cases p35 : (o == 35)
        · exfalso
          rw [beq_eq_false_iff_ne] at p30 p35
          omega
        all_goals
          clear ho
          go_wp2_with (go_at_call 11; ((with_reducible refine (HC.out _ (HT.out.below (HW.out.trans (HB.out.mono HW.out.size)))).mono ?_); rintro e w' ⟨rfl, hb⟩; replace HB := Lib.hid (after HB.out hb); replace HBW := Lib.hid (after HBW.out hb); clear hb; obtain ⟨b0, b1, b2, b3, b4, b5, b6, b7, b8, b9⟩ := HA2.out.below HBW.out hXl2))
          go_ret
          exact retB_bool rfl (HW.out.trans (HB.out.mono HW.out.size))
      · have p30 : (o == 30) = false := by rw [beq_eq_false_iff_ne]; omega
        have p35 : (o == 35) = false := by rw [beq_eq_false_iff_ne]; omega
        clear ho
        go_wp2_with (go_at_call 11; ((with_reducible refine (HC.out _ (HT.out.below (HW.out.trans (HB.out.mono HW.out.size)))).mono ?_); rintro e w' ⟨rfl, hb⟩; replace HB := Lib.hid (after HB.out hb); replace HBW := Lib.hid (after HBW.out hb); clear hb; obtain ⟨b0, b1, b2, b3, b4, b5, b6, b7, b8, b9⟩ := HA2.out.below HBW.out hXl2))
        go_ret
        exact retB_bool rfl (HW.out.trans (HB.out.mono HW.out.size))
theorem InstOwn_walk (i : In) (hi : InB i) (w : World) (hw : Tab5 w) : Calls Tryd.prog 6 #[inV i] w (RetB (.bool true) w) := by
  cases hf : isI i
  · exact InstOwn_no i hi w hw hf
  · exact InstOwn_yes i hi w hw hf
end Go.Proofs.YtjnmkelppjcofaaDoor
