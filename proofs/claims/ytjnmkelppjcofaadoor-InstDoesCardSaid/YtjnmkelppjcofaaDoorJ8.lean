/- The law InstBack, walked. -/
import Derived.Test.YtjnmkelppjcofaaDoorJ6
import Derived.IntWalk
namespace Go.Proofs.YtjnmkelppjcofaaDoor
set_option linter.unusedVariables false
set_option linter.unusedSimpArgs false
open Go.RowKit

theorem opsL_mem {x : ByteArray} {v : Int} (h : v ∈ opsL x) : ∃ k : Nat, v = (k : Int) ∧ 1 ≤ k ∧ k < 40 ∧ ((nmB k).toList == x.toList) = true := by
  unfold opsL opsK at h
  obtain ⟨k, hk, rfl⟩ := List.mem_map.1 h
  rw [List.mem_filter, List.mem_range, Bool.and_eq_true, decide_eq_true_eq] at hk
  exact ⟨k, rfl, hk.2.1, hk.1, hk.2.2⟩
theorem opsL_rise (x : ByteArray) : (opsL x).Pairwise (· < ·) := by
  unfold opsL opsK
  rw [List.pairwise_map]
  refine List.Pairwise.filter _ (List.pairwise_lt_range.imp ?_)
  intro a b h
  exact Int.ofNat_lt.2 h
theorem opsL_own {k : Nat} (h1 : 1 ≤ k) (h2 : k < 40) : (k : Int) ∈ opsL (nmB k) := by
  unfold opsL opsK
  refine List.mem_map.2 ⟨k, ?_, rfl⟩
  rw [List.mem_filter, List.mem_range, Bool.and_eq_true, decide_eq_true_eq]
  exact ⟨h2, h1, beq_self_eq_true _⟩
theorem shapeI_pos : ∀ k, k < 40 → 1 ≤ k → 1 ≤ shapeI (k : Nat) ∧ shapeI (k : Nat) ≤ 16 := by decide +kernel
theorem nameI_in {k : Nat} (h1 : 1 ≤ k) (h2 : k < 40) : nameI (k : Int) = (nmB k, 0) := by
  unfold nameI
  rw [if_neg (by have := shapeI_pos k h2 h1; omega)]; rfl
theorem nameI_out {op : Int} (h : ¬ (1 ≤ op ∧ op ≤ 39)) : nameI op = (⟨#[]⟩, 1) ∧ shapeI op = 0 := by
  have e : shapeI op = 0 := by unfold shapeI; rw [if_pos (by omega)]
  exact ⟨by unfold nameI; rw [if_pos e], e⟩
theorem memB_snoc (l : List Int) (k : Nat) (h : k < l.length) (v : Int) : memB (l.take (k + 1)) v = (memB (l.take k) v || l[k] == v) := by
  unfold memB
  rw [List.take_succ_eq_append_getElem h, List.any_append, List.any_cons, List.any_nil, Bool.or_false]
theorem opsL_len (x : ByteArray) : (opsL x).length ≤ 40 := opsK_len nmB x 40

set_option maxRecDepth 100000 in
set_option maxHeartbeats 8000000 in
theorem InstBack_walk (op : Int) (hop : -9223372036854775808 ≤ op ∧ op ≤ 9223372036854775807) (x : ByteArray) (hx : x.size ≤ maxLen) (w : World) (hw : Tab5 w) :
    Calls Tryd.prog 5 #[.int .i64 op, .string x] w (RetB (.bool true) w) := by
  have HT := Lib.hid hw
  have HB := Lib.hid (Below.refl w.heap.size w)
  have HC : Hid (∀ w, Tab5 w → Calls Tryd.prog 11 #[] w (RetB (.bool true) w)) := Lib.hid fun w h => shaped_any w h
  clear hw hx
  by_cases hr : 1 ≤ op ∧ op ≤ 39
  · obtain ⟨q, rfl⟩ := Int.eq_ofNat_of_zero_le (show 0 ≤ op by omega)
    have hs := shapeI_pos q (by omega) (by omega)
    have HN : Hid (∀ w, Tab5 w → Calls Tryd.prog 17 #[.int .i64 (q : Int)] w (Ret (.tuple #[.string (nmB q), .int .i64 0]) w)) := Lib.hid fun w h => by have := Name_any (q : Int) w h; rwa [nameI_in (by omega) (by omega)] at this
    have HSh : Hid (∀ w, Tab5 w → Calls Tryd.prog 19 #[.int .i64 (q : Int)] w (Ret (.int .i64 (shapeI q)) w)) := Lib.hid fun w h => Shape_any q w h.1
    have HO1 : Hid (∀ w, Tab5 w → Calls Tryd.prog 21 #[.string (nmB q)] w (RetL (opsL (nmB q)) w)) := Lib.hid fun w h => Ops_any _ w h
    have HO2 : Hid (∀ w, Tab5 w → Calls Tryd.prog 21 #[.string x] w (RetL (opsL x) w)) := Lib.hid fun w h => Ops_any _ w h
    have HOwn := Lib.hid (opsL_own (k := q) (by omega) (by omega))
    have HL1 := Lib.hid (opsL_len (nmB q))
    generalize shapeI (q : Int) = s at *
    generalize opsL (nmB q) = l1 at *
    generalize nmB q = nq at *
    obtain ⟨l2, HL2⟩ : ∃ l2, Hid (l2 = opsL x) := ⟨_, Lib.hid rfl⟩
    rw [← HL2.out] at HO2
    have hl1 : l1.length ≤ 40 := HL1.out
    have hl2 : l2.length ≤ 40 := by rw [HL2.out]; exact opsL_len x
    clear hr hop
    go_enter Tryd.func5, Tryd.ntmps5
    go_wp2_with (first
      | (go_at_call 17; ((with_reducible refine (HN.out _ HT.out).mono ?_); rintro e w' ⟨rfl, rfl⟩))
      | (go_at_call 21; ((with_reducible refine (HO1.out _ HT.out).mono ?_); rintro e w1 ⟨a1, c1, rfl, hsl, hnil, hb⟩; have HS1 := Lib.hid hsl; replace HB := Lib.hid (after HB.out hb); clear hb hsl hnil)))
    generalize hn1 : l1.length = n1 at *
    have HN1 := Lib.hid hn1
    clear hn1
    go_loop [7, 9] (fun v i => ∃ k : Nat, k ≤ n1 ∧ i = .int .i64 k ∧ v = .bool (memB (l1.take k) q)) (fun _ i => n1 - (intOf i).toNat)
    case atStart => exact ⟨0, by omega, rfl, rfl⟩
    case round =>
      obtain ⟨k, hk, rfl, rfl⟩ := hrel
      by_cases hlt : k < n1
      · have hk1 : k < l1.length := by rw [HN1.out]; exact hlt
        obtain ⟨b, off, rfl, hB, hc⟩ := HS1.out.cells (HS1.out.ne (k := k) hlt)
        have c0 := hc k hk1 0 (by omega)
        have HM := Lib.hid (memB_snoc l1 k hk1 q)
        obtain ⟨y, hy⟩ : ∃ y, y = l1[k] := ⟨_, rfl⟩
        rw [← hy] at c0 HM
        simp only [encI, Nat.add_zero, Nat.mul_one, List.getElem?_cons_zero] at c0
        clear hc hy
        generalize memB (l1.take k) q = bb at *
        cases bb
        · go_wp2
          go_round
          case rel => exact ⟨k + 1, by omega, by go_num, by rw [HM.out]; rfl⟩
          case measure => simp [intOf]; omega
        · go_wp2
          go_round
          case rel => exact ⟨k + 1, by omega, by go_num, by rw [HM.out]; rfl⟩
          case measure => simp [intOf]; omega
      · have hin : memB (l1.take k) q = true := by
          rw [List.take_of_length_le (by rw [HN1.out]; omega), memB_iff]; exact HOwn.out
        rw [hin]
        go_wp2_with (go_at_call 21; ((with_reducible refine (HO2.out _ (HT.out.below HB.out)).mono ?_); rintro e w2 ⟨a2, c2, rfl, hsl, hnil, hb⟩; have HS2 := Lib.hid hsl; replace HB := Lib.hid (after HB.out hb); clear hb hsl hnil))
        generalize hn2 : l2.length = n2 at *
        have HN2 := Lib.hid hn2
        clear hn2
        go_loopw [11] (fun i wr => ∃ k : Nat, k ≤ n2 ∧ i = .int .i64 k ∧ Below w2.heap.size w2 wr) (fun i _ => n2 - (intOf i).toNat)
        case atStart => exact ⟨0, by omega, rfl, Below.refl _ _⟩
        case round =>
          obtain ⟨j, hj, rfl, hbw⟩ := hrel
          have HBW := Lib.hid hbw
          have hS2 := HS2.out.next hbw
          clear hbw
          by_cases hlt2 : j < n2
          · have hj1 : j < l2.length := by rw [HN2.out]; exact hlt2
            obtain ⟨b, off, rfl, hB, hc⟩ := hS2.cells (hS2.ne (k := j) hlt2)
            have c0 := hc j hj1 0 (by omega)
            obtain ⟨y, ey, y1, y2, ys⟩ := opsL_mem (x := x) (v := l2[j]) (by rw [← HL2.out]; exact List.getElem_mem hj1)
            have HNy : Hid (∀ w, Tab5 w → Calls Tryd.prog 17 #[.int .i64 (y : Int)] w (Ret (.tuple #[.string (nmB y), .int .i64 0]) w)) := Lib.hid fun w h => by have := Name_any (y : Int) w h; rwa [nameI_in y1 y2] at this
            have ys2 : ((nmB y).toList != x.toList) = false := by rw [bne, ys]; rfl
            rw [ey] at c0
            simp only [encI, Nat.add_zero, Nat.mul_one, List.getElem?_cons_zero] at c0
            have HEY := Lib.hid ey
            clear ey
            generalize nmB y = ny at *
            by_cases j0 : j = 0
            · subst j0
              clear hc
              rw [Nat.add_zero] at c0
              have hn0 : 0 < n2 := hlt2
              go_wp2_with (go_at_call 17; ((with_reducible refine (HNy.out _ (HT.out.below (HB.out.trans (HBW.out.mono HB.out.size)))).mono ?_); rintro e w' ⟨rfl, rfl⟩))
              go_quiet (fail)
              go_wp2
              go_roundw
              case rel => exact ⟨1, by omega, rfl, below_drewN HBW.out _⟩
              case measure => simp [intOf]; omega
            · obtain ⟨i, rfl⟩ : ∃ i, j = i + 1 := ⟨j - 1, by omega⟩
              have cm := hc i (by omega) 0 (by omega)
              obtain ⟨z, ez, z1, z2, zs⟩ := opsL_mem (x := x) (v := l2[i]'(by omega)) (by rw [← HL2.out]; exact List.getElem_mem (by omega))
              have hrise : (l2[i]'(by omega)) < l2[i + 1] := by
                have := opsL_rise x
                rw [← HL2.out, List.pairwise_iff_getElem] at this
                exact this i (i + 1) (by omega) hj1 (by omega)
              rw [ez, HEY.out] at hrise
              rw [ez] at cm
              simp only [encI, Nat.add_zero, Nat.mul_one, List.getElem?_cons_zero] at cm
              have q1 : ((y : Int) ≤ (z : Int)) = False := by simp only [eq_iff_iff, iff_false]; omega
              have q2 : decide (y ≤ z) = false := by rw [decide_eq_false_iff_not]; omega
              clear ez zs hc hrise j0
              have e1 : ((i : Int) + 1 - 1) = i := by omega
              have e2 : IntKind.i64.wrap ((i : Int) + 1 - 1) = i := by rw [e1]; exact IntWalk.i64_in _ (by omega)
              have e3 : (0 : Int) ≤ i := by omega
              have e4 : i < n2 := by omega
              have e5 : i + 1 < n2 := hlt2
              have q3 : decide ((0 : Int) < (i : Int) + 1) = true := by rw [decide_eq_true_iff]; omega
              go_wp2_with (go_at_call 17; ((with_reducible refine (HNy.out _ (HT.out.below (HB.out.trans (HBW.out.mono HB.out.size)))).mono ?_); rintro e w' ⟨rfl, rfl⟩))
              go_quiet (fail)
              go_wp2
              go_roundw
              case rel => exact ⟨i + 1 + 1, by omega, by go_num, below_drewN HBW.out _⟩
              case measure => simp [intOf]; omega
          · replace HB := Lib.hid (after HB.out HBW.out)
            obtain ⟨s1, s2⟩ := hs
            go_wp2_with (first
              | (go_at_call 19; ((with_reducible refine (HSh.out _ (HT.out.below HB.out)).mono ?_); rintro e w' ⟨rfl, rfl⟩))
              | (go_at_call 11; ((with_reducible refine (HC.out _ (HT.out.below HB.out)).mono ?_); rintro e w' ⟨rfl, hb⟩; replace HB := Lib.hid (after HB.out hb); clear hb)))
            go_ret
            exact retB_bool rfl HB.out
  · obtain ⟨e1, e2⟩ := nameI_out hr
    have HN : Hid (∀ w, Tab5 w → Calls Tryd.prog 17 #[.int .i64 op] w (Ret (.tuple #[.string ⟨#[]⟩, .int .i64 1]) w)) := Lib.hid fun w h => by have := Name_any op w h; rwa [e1] at this
    have HSh : Hid (∀ w, Tab5 w → Calls Tryd.prog 19 #[.int .i64 op] w (Ret (.int .i64 0) w)) := Lib.hid fun w h => by have := Shape_any op w h.1; rwa [e2] at this
    have hc : op < 1 ∨ (1 ≤ op ∧ 39 < op) := by omega
    clear hr e1 e2 hop
    rcases hc with h1 | ⟨h1, h2⟩
    all_goals
      go_enter Tryd.func5, Tryd.ntmps5
      go_wp2_with (first
        | (go_at_call 17; ((with_reducible refine (HN.out _ HT.out).mono ?_); rintro e w' ⟨rfl, rfl⟩))
        | (go_at_call 19; ((with_reducible refine (HSh.out _ (HT.out.below HB.out)).mono ?_); rintro e w' ⟨rfl, rfl⟩))
        | (go_at_call 11; ((with_reducible refine (HC.out _ (HT.out.below HB.out)).mono ?_); rintro e w' ⟨rfl, hb⟩; replace HB := Lib.hid (after HB.out hb); clear hb)))
      go_ret
      exact retB_bool rfl HB.out
end Go.Proofs.YtjnmkelppjcofaaDoor
