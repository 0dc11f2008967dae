/- The reference's Decode. The law CodeDoes, walked. -/
import Derived.Test.YtdeigbdcipkaaaaGreatDoorF7
namespace Go.Proofs.YtdeigbdcipkaaaaGreatDoor
set_option linter.unusedVariables false
set_option linter.unusedSimpArgs false
open Go.RowKit

theorem ROf_any (o : Int) (x : Nat) (hx : x < 4294967296) (s : Nat) (hs : shapeI o = s) (h1 : 1 ≤ s) (h2 : s ≤ 16) (a : Option Addr) (c : Nat) (w : World) (h : SL encU 1 w w.heap.size a (fvX s x).length (fvX s x)) : Calls Tryz.prog 44 #[.int .i64 o, .slice a (fvX s x).length c] w (RetB (inV (decW o s x)) w) := by
  have hc : s = 1 ∨ s = 2 ∨ s = 3 ∨ s = 4 ∨ s = 5 ∨ s = 6 ∨ s = 7 ∨ s = 8 ∨ s = 9 ∨ s = 10 ∨ s = 11 ∨ s = 12 ∨ s = 13 ∨ s = 14 ∨ s = 15 ∨ s = 16 := by omega
  rcases hc with rfl | rfl | rfl | rfl | rfl | rfl | rfl | rfl | rfl | rfl | rfl | rfl | rfl | rfl | rfl | rfl
  · exact rof1 o x hx hs a c w h
  · exact rof2 o x hx hs a c w h
  · exact rof3 o x hx hs a c w h
  · exact rof4 o x hx hs a c w h
  · exact rof5 o x hx hs a c w h
  · exact rof6 o x hx hs a c w h
  · exact rof7 o x hx hs a c w h
  · exact rof8 o x hx hs a c w h
  · exact rof9 o x hx hs a c w h
  · exact rof10 o x hx hs a c w h
  · exact rof11 o x hx hs a c w h
  · exact rof12 o x hx hs a c w h
  · exact rof13 o x hx hs a c w h
  · exact rof14 o x hx hs a c w h
  · exact rof15 o x hx hs a c w h
  · exact rof16 o x hx hs a c w h

theorem infoU : (Tryz.prog.info? 22).map (fun i => (i.zero, i.size, i.bytes)) = some (some (.int .u32 0), 1, 4) := by kernel_rfl
theorem cell_newU (w : World) (u : Value) (T : TypeId) : ∀ j x, [u][j]? = some x → (w.alloc (.cells #[u] T)).cell? ((⟨w.heap.size, 0, none⟩ : Addr).add j) = some x := by
  intro j x hj
  match j, hj with
  | 0, hj => simp at hj; subst hj; simp [Addr.add]
theorem one_oneU (x : Int) : ∀ u ∈ [Value.int .u32 x], u.oneCell' = true := by intro u hu; simp at hu; subst hu; rfl
theorem fvX_len (s x : Nat) : (fvX s x).length = (plL s).length := by unfold fvX fldX; simp
theorem fvX_take (s x k : Nat) (h : k < (plL s).length) : (fvX s x).take (k + 1) = (fvX s x).take k ++ [fw x (plL s)[k].1.toNat (plL s)[k].2.toNat] := by
  have h2 : k < (fvX s x).length := by rw [fvX_len]; exact h
  rw [List.take_succ_eq_append_getElem h2]
  congr 2
  simp only [fvX, fldX, List.getElem_map]

set_option maxRecDepth 100000 in
set_option maxHeartbeats 4000000 in
theorem RDecode_none (x : Nat) (hx : x < 4294967296) (w : World) (h0 : opW x = 0) : Calls Tryz.prog 21 #[.int .u32 x] w (RetB (out2 (inZ, 11)) w) := by
  have HO : Hid (∀ w, Calls Tryz.prog 40 #[.int .u32 x] w (RetB (.int .i64 0) w)) := Lib.hid fun w => by have := ROpcode_any x hx w; rwa [h0] at this
  have hZ : ∀ w, (zeroValue 44).run Tryz.prog w = .ok (.agg (inC inZ)) w := fun w => by kernel_rfl
  clear h0
  go_enter Tryz.func21, Tryz.ntmps21
  go_wp2_with (go_at_call 40; ((with_reducible refine (HO.out _).mono ?_); rintro e w1 ⟨rfl, hb⟩; have hz := (hb.block w.heap.size (by simp)).trans (MapKept.heap_alloc w _).1; have hbw := after (bel_alloc (Below.refl w.heap.size w) _) hb; clear hb; have z0 : w1.cell? ⟨w.heap.size, 0, none⟩ = some (.int .i64 0) := cel hz; have zq0 : w1.frozen? ⟨w.heap.size, 0, none⟩ = false := frz hz; have z1 : w1.cell? ⟨w.heap.size, 1, none⟩ = some (.int .i64 0) := cel hz; have zq1 : w1.frozen? ⟨w.heap.size, 1, none⟩ = false := frz hz; have z2 : w1.cell? ⟨w.heap.size, 2, none⟩ = some (.int .i64 0) := cel hz; have zq2 : w1.frozen? ⟨w.heap.size, 2, none⟩ = false := frz hz; have z3 : w1.cell? ⟨w.heap.size, 3, none⟩ = some (.int .i64 0) := cel hz; have zq3 : w1.frozen? ⟨w.heap.size, 3, none⟩ = false := frz hz; have z4 : w1.cell? ⟨w.heap.size, 4, none⟩ = some (.int .i64 0) := cel hz; have zq4 : w1.frozen? ⟨w.heap.size, 4, none⟩ = false := frz hz; have z5 : w1.cell? ⟨w.heap.size, 5, none⟩ = some (.int .i64 0) := cel hz; have zq5 : w1.frozen? ⟨w.heap.size, 5, none⟩ = false := frz hz; have z6 : w1.cell? ⟨w.heap.size, 6, none⟩ = some (.int .u64 0) := cel hz; have zq6 : w1.frozen? ⟨w.heap.size, 6, none⟩ = false := frz hz; have z7 : w1.cell? ⟨w.heap.size, 7, none⟩ = some (.int .i64 0) := cel hz; have zq7 : w1.frozen? ⟨w.heap.size, 7, none⟩ = false := frz hz; have z8 : w1.cell? ⟨w.heap.size, 8, none⟩ = some (.int .i64 0) := cel hz; have zq8 : w1.frozen? ⟨w.heap.size, 8, none⟩ = false := frz hz; have z9 : w1.cell? ⟨w.heap.size, 9, none⟩ = some (.int .i64 0) := cel hz; have zq9 : w1.frozen? ⟨w.heap.size, 9, none⟩ = false := frz hz))
  refine bodyPost_ret (v := out2 (inZ, 11)) (by simp [results, Tryz.results21, go_sem, *]) rfl ⟨rfl, ?_⟩
  repeat' (first | (with_reducible exact hbw) | (with_reducible exact Nat.le_refl _) | (with_reducible refine bel_set ?_ ?_))

set_option maxRecDepth 100000 in
set_option maxHeartbeats 8000000 in
theorem RDecode_some (x : Nat) (hx : x < 4294967296) (w : World) (h0 : 1 ≤ opW x) : Calls Tryz.prog 21 #[.int .u32 x] w (RetB (out2 (dI x)) w) := by
  obtain ⟨i0, hi, hz0, hz1, hz2⟩ := info_parts infoU
  have hopl : opW x ≤ 39 := by rcases opW_or x with ⟨e, -⟩ | ⟨h1, h2, h3⟩ <;> omega
  have hsb := shapeI_b (opW x : Nat)
  obtain ⟨s, hs⟩ := Int.eq_ofNat_of_zero_le hsb.1
  have hs16 : s ≤ 16 := by omega
  have hs1 : 1 ≤ s := by
    have h4 : ∀ j : Fin 40, j.val = 0 ∨ shL.getD j.val 0 ≠ 0 := by decide
    have := (h4 ⟨opW x, by omega⟩).resolve_left (by simp only []; omega)
    have h5 := hs
    unfold shapeI at h5
    rw [if_neg (by omega), Int.toNat_natCast] at h5
    simp only [] at this
    omega
  have HO : Hid (∀ w, Calls Tryz.prog 40 #[.int .u32 x] w (RetB (.int .i64 (opW x : Nat)) w)) := Lib.hid fun w => ROpcode_any x hx w
  have HSh : Hid (∀ w, Calls Tryz.prog 42 #[.int .i64 (opW x : Nat)] w (RetB (.int .i64 s) w)) := Lib.hid fun w => by have := RShape_any (opW x : Nat) w; rwa [hs] at this
  have HPl : Hid (∀ w, Calls Tryz.prog 41 #[.int .i64 s] w (RetQ (plL s) w)) := Lib.hid fun w => Places_any s hs16 w
  have hrw : decW (opW x : Nat) s x = readW x := by unfold readW; rw [hs, Int.toNat_natCast]
  have HOf : Hid (∀ w a c, SL encU 1 w w.heap.size a (fvX s x).length (fvX s x) → Calls Tryz.prog 44 #[.int .i64 (opW x : Nat), .slice a (fvX s x).length c] w (RetB (inV (readW x)) w)) := Lib.hid fun w a c h => by have := ROf_any (opW x : Nat) x hx s hs hs1 hs16 a c w h; rwa [hrw] at this
  have HIs : Hid (∀ w, Calls Tryz.prog 45 #[inV (readW x)] w (RetB (.bool (isI (readW x))) w)) := Lib.hid fun w => RIs_any (readW x) (readW_inB x hx) w
  have hdI : dI x = if isI (readW x) = true then (readW x, 0) else (inZ, 11) := rfl
  have HG : Hid (∀ p ∈ plL s, 0 ≤ p.1 ∧ p.1 < 32 ∧ 1 ≤ p.2 ∧ p.1 + p.2 ≤ 32) := Lib.hid (plL_good ⟨s, by omega⟩)
  have hl5 := (plL_len ⟨s, by omega⟩).1
  simp only [] at hl5
  have hfl := fvX_len s x
  have HFT := Lib.hid (fun k hk => fvX_take s x k hk)
  have hZ : ∀ w, (zeroValue 44).run Tryz.prog w = .ok (.agg (inC inZ)) w := fun w => by kernel_rfl
  clear hsb hs hrw
  generalize dI x = dx at *
  generalize isI (readW x) = isr at *
  generalize readW x = r at *
  generalize opW x = op at *
  generalize fvX s x = fv at *
  generalize plL s = l at *
  obtain ⟨nl, hnl⟩ : ∃ nl, l.length = nl := ⟨_, rfl⟩
  have hn5 : nl ≤ 5 := by omega
  have HNL := Lib.hid hnl
  have HFL : Hid (fv.length = nl) := Lib.hid (by omega)
  have HDX := Lib.hid hdI
  clear hnl hfl hl5 hdI
  have q0 : (((op : Nat) : Int) == 0) = false := by rw [beq_eq_false_iff_ne]; omega
  obtain ⟨o, d, n, m, a, xx, kk, hh, t, c⟩ := r
  go_enter Tryz.func21, Tryz.ntmps21
  go_wp2_with (first
    | (go_at_call 40; ((with_reducible refine (HO.out _).mono ?_); rintro e w1 ⟨rfl, hb⟩; have hz := (hb.block w.heap.size (by simp)).trans (MapKept.heap_alloc w _).1; have hbw := after (bel_alloc (Below.refl w.heap.size w) _) hb; clear hb))
    | (go_at_call 42; ((with_reducible refine (HSh.out _).mono ?_); rintro e w2 ⟨rfl, hb⟩; have l1 := (Array.getElem?_eq_some_iff.1 hz).1; replace hz := (hb.block _ l1).trans hz; replace hbw := hbw.trans (hb.mono hbw.size); clear hb l1))
    | (go_at_call 41; ((with_reducible refine (HPl.out _).mono ?_); rintro e wp ⟨pa, pc, rfl, hsl, hb⟩; rw [HNL.out] at hsl ⊢; have HS := Lib.hid hsl; have l1 := (Array.getElem?_eq_some_iff.1 hz).1; replace hz := (hb.block _ l1).trans hz; replace hbw := hbw.trans (hb.mono hbw.size); clear hb l1 hsl)))
  have HZ := Lib.hid hz
  have HBW := Lib.hid hbw
  clear hz hbw
  go_loopw [5, 7] (fun u i wl => ∃ k : Nat, k ≤ nl ∧ i = .int .i64 k ∧ wl.ownsRow wp.heap.size 22 1 u (fv.take k).length ((fv.take k).flatMap encU) ∧ Below wp.heap.size wp wl) (fun _ i _ => nl - (intOf i).toNat)
  case atStart => exact ⟨0, by omega, rfl, World.ownsRow_nil _ _ _ _, Below.refl _ _⟩
  case round =>
    obtain ⟨j, hj, rfl, hown, hb⟩ := hrel
    have hbs := hb.size
    have HOWN := Lib.hid hown
    clear hown
    by_cases hjl : j < nl
    · have hj1 : j < l.length := by have := HNL.out; omega
      obtain ⟨b, off, rfl, hBl, hc⟩ := (HS.out.below hb).cells (HS.out.ne hjl)
      have c0 := hc j hj1 0 (by omega)
      have c1 := hc j hj1 1 (by omega)
      have hg := HG.out l[j] (List.getElem_mem _)
      have HE := Lib.hid (HFT.out j hj1)
      have htl : (fv.take j).length ≤ 5 := by rw [List.length_take]; omega
      generalize l[j] = p at *
      obtain ⟨p1, p2⟩ := p
      simp only [encQ, Nat.add_zero, List.getElem?_cons_zero, List.getElem?_cons_succ] at c0 c1 hg
      have HFd : Hid (∀ w, Calls Tryz.prog 43 #[.int .u32 x, .int .i64 p1, .int .i64 p2] w (RetD (.tuple #[.int .u32 (fw x p1.toNat p2.toNat), .int .i64 0]) w)) := Lib.hid fun w => by
        have := refField_any x p1 p2 w (by omega) (by omega)
        obtain ⟨a1, rfl⟩ := Int.eq_ofNat_of_zero_le hg.1
        obtain ⟨a2, rfl⟩ := Int.eq_ofNat_of_zero_le (show 0 ≤ p2 by omega)
        rwa [fieldS_in x a1 a2 (by omega) (by omega)] at this
      clear hc hg
      simp only [] at HE
      generalize fw x p1.toNat p2.toNat = f at *
      generalize fv.take j = acc at *
      have hm : acc.length + 1 ≤ maxLen := by unfold maxLen; omega
      have hby : (acc.length + 1) * 4 ≤ 140737488355328 := by omega
      go_wp2_with fail
      go_quiet ((go_at_call 43; exact Calls.quiet_of (HFd.out _)))
      obtain ⟨wq, hwq⟩ : ∃ wq, wq = wr.drewN nq := ⟨_, rfl⟩
      have hbq : Below wp.heap.size wp wq := by rw [hwq]; exact below_drewN hb _
      have hownq : wq.ownsRow wp.heap.size 22 1 u5 acc.length (acc.flatMap encU) := by rw [hwq]; exact HOWN.out
      rw [← hwq]
      have HOWNQ := Lib.hid hownq
      have hbqs := hbq.size
      clear hownq hwq HOWN c0 c1 HFd hb hbs
      go_wp2_with (at_builtin; refine wpList_append_own _ rfl _ _ 65 rfl wp.heap.size 22 i0 (.int .u32 0) 1 4 Tryz.underlying65 hi hz0 hz1 hz2 rfl (by decide) _ acc.length (acc.flatMap encU) rfl (HOWNQ.out.alloc _) ⟨wq.heap.size, 0, none⟩ 1 1 [.int .u32 f] rfl rfl (cell_newU _ _ _) (one_oneU _) hm hby (by simp; omega) ?_; intro v' w2 hown2 hgrow2 hiff)
      go_roundw
      case rel =>
        refine ⟨j + 1, by omega, by go_num, ?_, (hbq.alloc hbqs _).grown hgrow2 (by simp; omega) (fun j hj => by have := (HOWNQ.out.lt j hj).1; omega)⟩
        rw [HE.out, List.flatMap_append, List.length_append]
        exact hown2
      case measure => simp [intOf]; omega
    · obtain rfl : j = nl := by omega
      have htk : fv.take j = fv := List.take_of_length_le (by have := HFL.out; omega)
      have hown := HOWN.out
      rw [htk] at hown
      obtain ⟨a', c', rfl, hsl2, -⟩ := SL.ofOwns encU_len (by decide) hown
      have hzl := (Array.getElem?_eq_some_iff.1 HZ.out).1
      have hz := (hb.block _ hzl).trans HZ.out
      have hbw := HBW.out.trans (hb.mono HBW.out.size)
      have HSL := Lib.hid hsl2
      clear hown htk HOWN hsl2 hb hbs
      cases isr
      all_goals
        go_wp2_with (first
          | (go_at_call 44; ((with_reducible refine (HOf.out _ _ _ HSL.out).mono ?_); rintro e w5 ⟨rfl, hb⟩; have l1 := (Array.getElem?_eq_some_iff.1 hz).1; replace hz := (hb.block _ l1).trans hz; replace hbw := hbw.trans (hb.mono hbw.size); clear hb l1))
          | (go_at_call 45; ((with_reducible refine (HIs.out _).mono ?_); rintro e w6 ⟨rfl, hb⟩; have l1 := (Array.getElem?_eq_some_iff.1 hz).1; have hx6 := (hb.block w5.heap.size (by simp)).trans (MapKept.heap_alloc w5 _).1; replace hz := (hb.block w.heap.size (by simp; omega)).trans ((Below.heap_alloc _ _ _ l1).trans hz); replace hbw := (bel_alloc hbw _).trans (hb.mono (bel_alloc hbw _).size); clear hb l1; have z0 : w6.cell? ⟨w.heap.size, 0, none⟩ = some (.int .i64 0) := cel hz; have zq0 : w6.frozen? ⟨w.heap.size, 0, none⟩ = false := frz hz; have z1 : w6.cell? ⟨w.heap.size, 1, none⟩ = some (.int .i64 0) := cel hz; have zq1 : w6.frozen? ⟨w.heap.size, 1, none⟩ = false := frz hz; have z2 : w6.cell? ⟨w.heap.size, 2, none⟩ = some (.int .i64 0) := cel hz; have zq2 : w6.frozen? ⟨w.heap.size, 2, none⟩ = false := frz hz; have z3 : w6.cell? ⟨w.heap.size, 3, none⟩ = some (.int .i64 0) := cel hz; have zq3 : w6.frozen? ⟨w.heap.size, 3, none⟩ = false := frz hz; have z4 : w6.cell? ⟨w.heap.size, 4, none⟩ = some (.int .i64 0) := cel hz; have zq4 : w6.frozen? ⟨w.heap.size, 4, none⟩ = false := frz hz; have z5 : w6.cell? ⟨w.heap.size, 5, none⟩ = some (.int .i64 0) := cel hz; have zq5 : w6.frozen? ⟨w.heap.size, 5, none⟩ = false := frz hz; have z6 : w6.cell? ⟨w.heap.size, 6, none⟩ = some (.int .u64 0) := cel hz; have zq6 : w6.frozen? ⟨w.heap.size, 6, none⟩ = false := frz hz; have z7 : w6.cell? ⟨w.heap.size, 7, none⟩ = some (.int .i64 0) := cel hz; have zq7 : w6.frozen? ⟨w.heap.size, 7, none⟩ = false := frz hz; have z8 : w6.cell? ⟨w.heap.size, 8, none⟩ = some (.int .i64 0) := cel hz; have zq8 : w6.frozen? ⟨w.heap.size, 8, none⟩ = false := frz hz; have z9 : w6.cell? ⟨w.heap.size, 9, none⟩ = some (.int .i64 0) := cel hz; have zq9 : w6.frozen? ⟨w.heap.size, 9, none⟩ = false := frz hz; have x0 : w6.cell? ⟨w5.heap.size, 0, none⟩ = some (.int .i64 o) := cel hx6; have x1 : w6.cell? ⟨w5.heap.size, 1, none⟩ = some (.int .i64 d) := cel hx6; have x2 : w6.cell? ⟨w5.heap.size, 2, none⟩ = some (.int .i64 n) := cel hx6; have x3 : w6.cell? ⟨w5.heap.size, 3, none⟩ = some (.int .i64 m) := cel hx6; have x4 : w6.cell? ⟨w5.heap.size, 4, none⟩ = some (.int .i64 a) := cel hx6; have x5 : w6.cell? ⟨w5.heap.size, 5, none⟩ = some (.int .i64 xx) := cel hx6; have x6 : w6.cell? ⟨w5.heap.size, 6, none⟩ = some (.int .u64 kk) := cel hx6; have x7 : w6.cell? ⟨w5.heap.size, 7, none⟩ = some (.int .i64 hh) := cel hx6; have x8 : w6.cell? ⟨w5.heap.size, 8, none⟩ = some (.int .i64 t) := cel hx6; have x9 : w6.cell? ⟨w5.heap.size, 9, none⟩ = some (.int .i64 c) := cel hx6)))
      · refine bodyPost_ret (v := out2 (inZ, 11)) (by simp [results, Tryz.results21, go_sem, *]) rfl ⟨by rw [HDX.out]; rfl, ?_⟩
        repeat' (first | (with_reducible exact hbw) | (with_reducible exact Nat.le_refl _) | (with_reducible refine bel_set ?_ ?_))
      · refine bodyPost_ret (v := out2 (⟨o, d, n, m, a, xx, kk, hh, t, c⟩, 0)) (by simp [results, Tryz.results21, go_sem, *]) rfl ⟨by rw [HDX.out]; rfl, ?_⟩
        repeat' (first | (with_reducible exact hbw) | (with_reducible exact Nat.le_refl _) | (with_reducible refine bel_set ?_ ?_))
theorem RDecode_any (x : Nat) (hx : x < 4294967296) (w : World) : Calls Tryz.prog 21 #[.int .u32 x] w (RetB (out2 (dI x)) w) := by
  by_cases h : 1 ≤ opW x
  · exact RDecode_some x hx w h
  · have h0 : opW x = 0 := by omega
    have hd : dI x = (inZ, 11) := by
      have hn : isI (readW x) = false := by
        cases hI : isI (readW x)
        · rfl
        · have := code_op hI
          rw [readW_op, h0] at this; omega
      unfold dI
      rw [hn, if_neg (by decide)]
    rw [hd]
    exact RDecode_none x hx w h0

end Go.Proofs.YtdeigbdcipkaaaaGreatDoor
