/- The reference's Decode. The law CodeDoes, walked. -/
import Derived.Test.YtfhpcjeefdkacaaDoorF7
namespace Go.Proofs.YtfhpcjeefdkacaaDoor
set_option linter.unusedVariables false
set_option linter.unusedSimpArgs false
open Go.RowKit

theorem ROf_any (o : Int) (x : Nat) (hx : x < 4294967296) (s : Nat) (hs : shapeI o = s) (h1 : 1 ≤ s) (h2 : s ≤ 16) (a : Option Addr) (c : Nat) (w : World) (h : SL encU 1 w w.heap.size a (fvX s x).length (fvX s x)) : Calls Tryd.prog 30 #[.int .i64 o, .slice a (fvX s x).length c] w (RetB (inV (decW o s x)) w) := by
  have hc : s = 1 ∨ s = 2 ∨ s = 3 ∨ s = 4 ∨ s = 5 ∨ s = 6 ∨ s = 7 ∨ s = 8 ∨ s = 9 ∨ s = 10 ∨ s = 11 ∨ s = 12 ∨ s = 13 ∨ s = 14 ∨ s = 15 ∨ s = 16 := by omega
  rcases hc with rfl | rfl | rfl | rfl | rfl | rfl | rfl | rfl | rfl | rfl | rfl | rfl | rfl | rfl | rfl | rfl
  · exact rof1 o x hx hs a c w h
  · exact rof2 o x hx hs a c w h
  · exact rof3 o x hx hs a c w h
  · exact rof4 o x hx hs a c w h
  · exact rof5 o x hx hs a c w h
  · exact rof6 o x hx hs a c w h
  · exact rof7 o x hx hs a c w h
  · exact rof8 o x hx hs a c w h
  · exact rof9 o x hx hs a c w h
  · exact rof10 o x hx hs a c w h
  · exact rof11 o x hx hs a c w h
  · exact rof12 o x hx hs a c w h
  · exact rof13 o x hx hs a c w h
  · exact rof14 o x hx hs a c w h
  · exact rof15 o x hx hs a c w h
  · exact rof16 o x hx hs a c w h

theorem infoU : (Tryd.prog.info? 25).map (fun i => (i.zero, i.size, i.bytes)) = some (some (.int .u32 0), 1, 4) := by kernel_rfl
theorem cell_newU (w : World) (u : Value) (T : TypeId) : ∀ j x, [u][j]? = some x → (w.alloc (.cells #[u] T)).cell? ((⟨w.heap.size, 0, none⟩ : Addr).add j) = some x := by
  intro j x hj
  match j, hj with
  | 0, hj => simp at hj; subst hj; simp [Addr.add]
theorem one_oneU (x : Int) : ∀ u ∈ [Value.int .u32 x], u.oneCell' = true := by intro u hu; simp at hu; subst hu; rfl
theorem fvX_len (s x : Nat) : (fvX s x).length = (plL s).length := by unfold fvX fldX; simp
theorem fvX_take (s x k : Nat) (h : k < (plL s).length) : (fvX s x).take (k + 1) = (fvX s x).take k ++ [fw x (plL s)[k].1.toNat (plL s)[k].2.toNat] := by
  have h2 : k < (fvX s x).length := by rw [fvX_len]; exact h
  rw [List.take_succ_eq_append_getElem h2]
  congr 2
  simp only [fvX, fldX, List.getElem_map]

set_option maxRecDepth 100000 in
set_option maxHeartbeats 4000000 in
theorem RDecode_none (x : Nat) (hx : x < 4294967296) (w : World) (h0 : opW x = 0) : Calls Tryd.prog 11 #[.int .u32 x] w (RetB (out2 (inZ, 11)) w) := by
  have HO : Hid (∀ w, Calls Tryd.prog 16 #[.int .u32 x] w (RetB (.int .i64 0) w)) := Lib.hid fun w => by have := ROpcode_any x hx w; rwa [h0] at this
  have hZ : ∀ w, (zeroValue 24).run Tryd.prog w = .ok (.agg (inC inZ)) w := fun w => by kernel_rfl
  clear h0
  go_enter Tryd.func11, Tryd.ntmps11
  go_wp2_with (go_at_call 16; ((with_reducible refine (HO.out _).mono ?_); rintro e w1 ⟨rfl, hb⟩; have hz := (hb.block w.heap.size (by simp)).trans (MapKept.heap_alloc w _).1; have hbw := after (bel_alloc (Below.refl w.heap.size w) _) hb; clear hb; have z0 : w1.cell? ⟨w.heap.size, 0, none⟩ = some (.int .i64 0) := cel hz; have zq0 : w1.frozen? ⟨w.heap.size, 0, none⟩ = false := frz hz; have z1 : w1.cell? ⟨w.heap.size, 1, none⟩ = some (.int .i64 0) := cel hz; have zq1 : w1.frozen? ⟨w.heap.size, 1, none⟩ = false := frz hz; have z2 : w1.cell? ⟨w.heap.size, 2, none⟩ = some (.int .i64 0) := cel hz; have zq2 : w1.frozen? ⟨w.heap.size, 2, none⟩ = false := frz hz; have z3 : w1.cell? ⟨w.heap.size, 3, none⟩ = some (.int .i64 0) := cel hz; have zq3 : w1.frozen? ⟨w.heap.size, 3, none⟩ = false := frz hz; have z4 : w1.cell? ⟨w.heap.size, 4, none⟩ = some (.int .i64 0) := cel hz; have zq4 : w1.frozen? ⟨w.heap.size, 4, none⟩ = false := frz hz; have z5 : w1.cell? ⟨w.heap.size, 5, none⟩ = some (.int .i64 0) := cel hz; have zq5 : w1.frozen? ⟨w.heap.size, 5, none⟩ = false := frz hz; have z6 : w1.cell? ⟨w.heap.size, 6, none⟩ = some (.int .u64 0) := cel hz; have zq6 : w1.frozen? ⟨w.heap.size, 6, none⟩ = false := frz hz; have z7 : w1.cell? ⟨w.heap.size, 7, none⟩ = some (.int .i64 0) := cel hz; have zq7 : w1.frozen? ⟨w.heap.size, 7, none⟩ = false := frz hz; have z8 : w1.cell? ⟨w.heap.size, 8, none⟩ = some (.int .i64 0) := cel hz; have zq8 : w1.frozen? ⟨w.heap.size, 8, none⟩ = false := frz hz; have z9 : w1.cell? ⟨w.heap.size, 9, none⟩ = some (.int .i64 0) := cel hz; have zq9 : w1.frozen? ⟨w.heap.size, 9, none⟩ = false := frz hz))
  refine bodyPost_ret (v := out2 (inZ, 11)) (by simp [results, Tryd.results11, go_sem, *]) rfl ⟨rfl, ?_⟩
  repeat' (first | (with_reducible exact hbw) | (with_reducible exact Nat.le_refl _) | (with_reducible refine bel_set ?_ ?_))

set_option maxRecDepth 100000 in
set_option maxHeartbeats 8000000 in
theorem RDecode_some (x : Nat) (hx : x < 4294967296) (w : World) (h0 : 1 ≤ opW x) : Calls Tryd.prog 11 #[.int .u32 x] w (RetB (out2 (dI x)) w) := by
  obtain ⟨i0, hi, hz0, hz1, hz2⟩ := info_parts infoU
  have hopl : opW x ≤ 39 := by rcases opW_or x with ⟨e, -⟩ | ⟨h1, h2, h3⟩ <;> omega
  have hsb := shapeI_b (opW x : Nat)
  obtain ⟨s, hs⟩ := Int.eq_ofNat_of_zero_le hsb.1
  have hs16 : s ≤ 16 := by omega
  have hs1 : 1 ≤ s := by
    have h4 : ∀ j : Fin 40, j.val = 0 ∨ shL.getD j.val 0 ≠ 0 := by decide
    have := (h4 ⟨opW x, by omega⟩).resolve_left (by simp only []; omega)
    have h5 := hs
    unfold shapeI at h5
    rw [if_neg (by omega), Int.toNat_natCast] at h5
    simp only [] at this
    omega
  have HO : Hid (∀ w, Calls Tryd.prog 16 #[.int .u32 x] w (RetB (.int .i64 (opW x : Nat)) w)) := Lib.hid fun w => ROpcode_any x hx w
  have HSh : Hid (∀ w, Calls Tryd.prog 20 #[.int .i64 (opW x : Nat)] w (RetB (.int .i64 s) w)) := Lib.hid fun w => by have := RShape_any (opW x : Nat) w; rwa [hs] at this
  have HPl : Hid (∀ w, Calls Tryd.prog 19 #[.int .i64 s] w (RetQ (plL s) w)) := Lib.hid fun w => Places_any s hs16 w
  have hrw : decW (opW x : Nat) s x = readW x := by unfold readW; rw [hs, Int.toNat_natCast]
  have HOf : Hid (∀ w a c, SL encU 1 w w.heap.size a (fvX s x).length (fvX s x) → Calls Tryd.prog 30 #[.int .i64 (opW x : Nat), .slice a (fvX s x).length c] w (RetB (inV (readW x)) w)) := Lib.hid fun w a c h => by have := ROf_any (opW x : Nat) x hx s hs hs1 hs16 a c w h; rwa [hrw] at this
  have HIs : Hid (∀ w, Calls Tryd.prog 24 #[inV (readW x)] w (RetB (.bool (isI (readW x))) w)) := Lib.hid fun w => RIs_any (readW x) (readW_inB x hx) w
  have hdI : dI x = if isI (readW x) = true then (readW x, 0) else (inZ, 11) := rfl
  have HG : Hid (∀ p ∈ plL s, 0 ≤ p.1 ∧ p.1 < 32 ∧ 1 ≤ p.2 ∧ p.1 + p.2 ≤ 32) := Lib.hid (plL_good ⟨s, by omega⟩)
  have hl5 := (plL_len ⟨s, by omega⟩).1
  simp only [] at hl5
  have hfl := fvX_len s x
  have HFT := Lib.hid (fun k hk => fvX_take s x k hk)
  have hZ : ∀ w, (zeroValue 24).run Tryd.prog w = .ok (.agg (inC inZ)) w := fun w => by kernel_rfl
  clear hsb hs hrw
  generalize dI x = dx at *
  generalize isI (readW x) = isr at *
  generalize readW x = r at *
  generalize opW x = op at *
  generalize fvX s x = fv at *
  generalize plL s = l at *
  obtain ⟨nl, hnl⟩ : ∃ nl, l.length = nl := ⟨_, rfl⟩
  have hn5 : nl ≤ 5 := by omega
  have HNL := Lib.hid hnl
  have HFL : Hid (fv.length = nl) := Lib.hid (by omega)
  have HDX := Lib.hid hdI
  clear hnl hfl hl5 hdI
  have q0 : (((op : Nat) : Int) == 0) = false := by rw [beq_eq_false_iff_ne]; omega
  obtain ⟨o, d, n, m, a, xx, kk, hh, t, c⟩ := r
  go_enter Tryd.func11, Tryd.ntmps11
  go_wp2_with (first
    | (go_at_call 16; ((with_reducible refine (HO.out _).mono ?_); rintro e w1 ⟨rfl, hb⟩; have hz := (hb.block w.heap.size (by simp)).trans (MapKept.heap_alloc w _).1; have hbw := after (bel_alloc (Below.refl w.heap.size w) _) hb; clear hb))
    | (go_at_call 20; ((with_reducible refine (HSh.out _).mono ?_); rintro e w2 ⟨rfl, hb⟩; have l1 := (Array.getElem?_eq_some_iff.1 hz).1; replace hz := (hb.block _ l1).trans hz; replace hbw := hbw.trans (hb.mono hbw.size); clear hb l1))
    | (go_at_call 19; ((with_reducible refine (HPl.out _).mono ?_); rintro e wp ⟨pa, pc, rfl, hsl, hb⟩; rw [HNL.out] at hsl ⊢; have HS := Lib.hid hsl; have l1 := (Array.getElem?_eq_some_iff.1 hz).1; replace hz := (hb.block _ l1).trans hz; replace hbw := hbw.trans (hb.mono hbw.size); clear hb l1 hsl)))
  have HZ := Lib.hid hz
  have HBW := Lib.hid hbw
  clear hz hbw
  go_loopw [5, 7] (fun u i wl => ∃ k : Nat, k ≤ nl ∧ i = .int .i64 k ∧ wl.ownsRow wp.heap.size 25 1 u (fv.take k).length ((fv.take k).flatMap encU) ∧ Below wp.heap.size wp wl) (fun _ i _ => nl - (intOf i).toNat)
  case atStart => exact ⟨0, by omega, rfl, World.ownsRow_nil _ _ _ _, Below.refl _ _⟩
  case round =>
    obtain ⟨j, hj, rfl, hown, hb⟩ := hrel
    have hbs := hb.size
    have HOWN := Lib.hid hown
    clear hown
    by_cases hjl : j < nl
    · have hj1 : j < l.length := by have := HNL.out; omega
      obtain ⟨b, off, rfl, hBl, hc⟩ := (HS.out.below hb).cells (HS.out.ne hjl)
      have c0 := hc j hj1 0 (by omega)
      have c1 := hc j hj1 1 (by omega)
      have hg := HG.out l[j] (List.getElem_mem _)
      have HE := Lib.hid (HFT.out j hj1)
      have htl : (fv.take j).length ≤ 5 := by rw [List.length_take]; omega
      generalize l[j] = p at *
      obtain ⟨p1, p2⟩ := p
      simp only [encQ, Nat.add_zero, List.getElem?_cons_zero, List.getElem?_cons_succ] at c0 c1 hg
      have HFd : Hid (∀ w, Calls Tryd.prog 29 #[.int .u32 x, .int .i64 p1, .int .i64 p2] w (RetD (.tuple #[.int .u32 (fw x p1.toNat p2.toNat), .int .i64 0]) w)) := Lib.hid fun w => by
        have := refField_any x p1 p2 w (by omega) (by omega)
        obtain ⟨a1, rfl⟩ := Int.eq_ofNat_of_zero_le hg.1
        obtain ⟨a2, rfl⟩ := Int.eq_ofNat_of_zero_le (show 0 ≤ p2 by omega)
        rwa [fieldS_in x a1 a2 (by omega) (by omega)] at this
      clear hc hg
      simp only [] at HE
      generalize fw x p1.toNat p2.toNat = f at *
      generalize fv.take j = acc at *
      have hm : acc.length + 1 ≤ maxLen := by unfold maxLen; omega
      have hby : (acc.length + 1) * 4 ≤ 140737488355328 := by omega
      go_wp2_with fail
      go_quiet ((go_at_call 29; exact Calls.quiet_of (HFd.out _)))
      obtain ⟨wq, hwq⟩ : ∃ wq, wq = wr.drewN nq := ⟨_, rfl⟩
      have hbq : Below wp.heap.size wp wq := by rw [hwq]; exact below_drewN hb _
      have hownq : wq.ownsRow wp.heap.size 25 1 u5 acc.length (acc.flatMap encU) := by rw [hwq]; exact HOWN.out
      rw [← hwq]
      have HOWNQ := Lib.hid hownq
      have hbqs := hbq.size
      clear hownq hwq HOWN c0 c1 HFd hb hbs
      go_wp2_with (at_builtin; refine wpList_append_own _ rfl _ _ 48 rfl wp.heap.size 25 i0 (.int .u32 0) 1 4 Tryd.underlying48 hi hz0 hz1 hz2 rfl (by decide) _ acc.length (acc.flatMap encU) rfl (HOWNQ.out.alloc _) ⟨wq.heap.size, 0, none⟩ 1 1 [.int .u32 f] rfl rfl (cell_newU _ _ _) (one_oneU _) hm hby (by simp; omega) ?_; intro v' w2 hown2 hgrow2 hiff)
      go_roundw
      case rel =>
        refine ⟨j + 1, by omega, by go_num, ?_, (hbq.alloc hbqs _).grown hgrow2 (by simp; omega) (fun j hj => by have := (HOWNQ.out.lt j hj).1; omega)⟩
        rw [HE.out, List.flatMap_append, List.length_append]
        exact hown2
      case measure => simp [intOf]; omega
    · obtain rfl : j = nl := by omega
      have htk : fv.take j = fv := List.take_of_length_le (by have := HFL.out; omega)
      have hown := HOWN.out
      rw [htk] at hown
      obtain ⟨a', c', rfl, hsl2, -⟩ := SL.ofOwns encU_len (by decide) hown
      have hzl := (Array.getElem?_eq_some_iff.1 HZ.out).1
      have hz := (hb.block _ hzl).trans HZ.out
      have hbw := HBW.out.trans (hb.mono HBW.out.size)
      have HSL := Lib.hid hsl2
      clear hown htk HOWN hsl2 hb hbs
      cases isr
      all_goals
        go_wp2_with (first
          | (go_at_call 30; ((with_reducible refine (HOf.out _ _ _ HSL.out).mono ?_); rintro e w5 ⟨rfl, hb⟩; have l1 := (Array.getElem?_eq_some_iff.1 hz).1; replace hz := (hb.block _ l1).trans hz; replace hbw := hbw.trans (hb.mono hbw.size); clear hb l1))
          | (go_at_call 24; ((with_reducible refine (HIs.out _).mono ?_); rintro e w6 ⟨rfl, hb⟩; have l1 := (Array.getElem?_eq_some_iff.1 hz).1; have hx6 := (hb.block w5.heap.size (by simp)).trans (MapKept.heap_alloc w5 _).1; replace hz := (hb.block w.heap.size (by simp; omega)).trans ((Below.heap_alloc _ _ _ l1).trans hz); replace hbw := (bel_alloc hbw _).trans (hb.mono (bel_alloc hbw _).size); clear hb l1; have z0 : w6.cell? ⟨w.heap.size, 0, none⟩ = some (.int .i64 0) := cel hz; have zq0 : w6.frozen? ⟨w.heap.size, 0, none⟩ = false := frz hz; have z1 : w6.cell? ⟨w.heap.size, 1, none⟩ = some (.int .i64 0) := cel hz; have zq1 : w6.frozen? ⟨w.heap.size, 1, none⟩ = false := frz hz; have z2 : w6.cell? ⟨w.heap.size, 2, none⟩ = some (.int .i64 0) := cel hz; have zq2 : w6.frozen? ⟨w.heap.size, 2, none⟩ = false := frz hz; have z3 : w6.cell? ⟨w.heap.size, 3, none⟩ = some (.int .i64 0) := cel hz; have zq3 : w6.frozen? ⟨w.heap.size, 3, none⟩ = false := frz hz; have z4 : w6.cell? ⟨w.heap.size, 4, none⟩ = some (.int .i64 0) := cel hz; have zq4 : w6.frozen? ⟨w.heap.size, 4, none⟩ = false := frz hz; have z5 : w6.cell? ⟨w.heap.size, 5, none⟩ = some (.int .i64 0) := cel hz; have zq5 : w6.frozen? ⟨w.heap.size, 5, none⟩ = false := frz hz; have z6 : w6.cell? ⟨w.heap.size, 6, none⟩ = some (.int .u64 0) := cel hz; have zq6 : w6.frozen? ⟨w.heap.size, 6, none⟩ = false := frz hz; have z7 : w6.cell? ⟨w.heap.size, 7, none⟩ = some (.int .i64 0) := cel hz; have zq7 : w6.frozen? ⟨w.heap.size, 7, none⟩ = false := frz hz; have z8 : w6.cell? ⟨w.heap.size, 8, none⟩ = some (.int .i64 0) := cel hz; have zq8 : w6.frozen? ⟨w.heap.size, 8, none⟩ = false := frz hz; have z9 : w6.cell? ⟨w.heap.size, 9, none⟩ = some (.int .i64 0) := cel hz; have zq9 : w6.frozen? ⟨w.heap.size, 9, none⟩ = false := frz hz; have x0 : w6.cell? ⟨w5.heap.size, 0, none⟩ = some (.int .i64 o) := cel hx6; have x1 : w6.cell? ⟨w5.heap.size, 1, none⟩ = some (.int .i64 d) := cel hx6; have x2 : w6.cell? ⟨w5.heap.size, 2, none⟩ = some (.int .i64 n) := cel hx6; have x3 : w6.cell? ⟨w5.heap.size, 3, none⟩ = some (.int .i64 m) := cel hx6; have x4 : w6.cell? ⟨w5.heap.size, 4, none⟩ = some (.int .i64 a) := cel hx6; have x5 : w6.cell? ⟨w5.heap.size, 5, none⟩ = some (.int .i64 xx) := cel hx6; have x6 : w6.cell? ⟨w5.heap.size, 6, none⟩ = some (.int .u64 kk) := cel hx6; have x7 : w6.cell? ⟨w5.heap.size, 7, none⟩ = some (.int .i64 hh) := cel hx6; have x8 : w6.cell? ⟨w5.heap.size, 8, none⟩ = some (.int .i64 t) := cel hx6; have x9 : w6.cell? ⟨w5.heap.size, 9, none⟩ = some (.int .i64 c) := cel hx6)))
      · refine bodyPost_ret (v := out2 (inZ, 11)) (by simp [results, Tryd.results11, go_sem, *]) rfl ⟨by rw [HDX.out]; rfl, ?_⟩
        repeat' (first | (with_reducible exact hbw) | (with_reducible exact Nat.le_refl _) | (with_reducible refine bel_set ?_ ?_))
      · refine bodyPost_ret (v := out2 (⟨o, d, n, m, a, xx, kk, hh, t, c⟩, 0)) (by simp [results, Tryd.results11, go_sem, *]) rfl ⟨by rw [HDX.out]; rfl, ?_⟩
        repeat' (first | (with_reducible exact hbw) | (with_reducible exact Nat.le_refl _) | (with_reducible refine bel_set ?_ ?_))
theorem RDecode_any (x : Nat) (hx : x < 4294967296) (w : World) : Calls Tryd.prog 11 #[.int .u32 x] w (RetB (out2 (dI x)) w) := by
  by_cases h : 1 ≤ opW x
  · exact RDecode_some x hx w h
  · have h0 : opW x = 0 := by omega
    have hd : dI x = (inZ, 11) := by
      have hn : isI (readW x) = false := by
        cases hI : isI (readW x)
        · rfl
        · have := code_op hI
          rw [readW_op, h0] at this; omega
      unfold dI
      rw [hn, if_neg (by decide)]
    rw [hd]
    exact RDecode_none x hx w h0

set_option maxRecDepth 100000 in
set_option maxHeartbeats 16000000 in
theorem CodeDoes_nat (i : In) (hi : InB i) (x0 : Nat) (hx : x0 < 4294967296) (op : Int) (w : World) (hw : Tab6 w) : Calls Tryd.prog 3 #[inV i, .int .u32 x0, .int .i64 op] w (RetB (.bool true) w) := by
  have HT := Lib.hid hw
  have HC : Hid (∀ w, Tab6 w → Calls Tryd.prog 14 #[] w (RetB (.bool true) w)) := Lib.hid fun w h => coded_any w h
  have HE1 : Hid (∀ w, Tab6 w → Calls Tryd.prog 8 #[inV i] w (RetB (.tuple #[.int .u32 (encP i).1, .int .i64 (encP i).2]) w)) := Lib.hid fun w h => CEncode_any i w h hi
  have HE2 : Hid (∀ w, Calls Tryd.prog 9 #[inV i] w (RetB (.tuple #[.int .u32 (encP i).1, .int .i64 (encP i).2]) w)) := Lib.hid fun w => REncode_any i w hi
  have HD1 : Hid (∀ w, Tab6 w → Calls Tryd.prog 10 #[.int .u32 x0] w (RetB (.tuple #[inV (dI x0).1, .int .i64 (dI x0).2]) w)) := Lib.hid fun w h => CDecode_any x0 hx w h
  have HD2 : Hid (∀ w, Calls Tryd.prog 11 #[.int .u32 x0] w (RetB (.tuple #[inV (dI x0).1, .int .i64 (dI x0).2]) w)) := Lib.hid fun w => RDecode_any x0 hx w
  have HB1 : Hid (∀ w, Tab6 w → Calls Tryd.prog 12 #[.int .i64 op] w (Ret (.tuple #[.int .u32 (baseI op).1, .int .i64 (baseI op).2]) w)) := Lib.hid fun w h => Base_any op w h
  have HB2 : Hid (∀ w, Calls Tryd.prog 13 #[.int .i64 op] w (RetB (.tuple #[.int .u32 (baseI op).1, .int .i64 (baseI op).2]) w)) := Lib.hid fun w => RBase_any op w
  have HO1 : Hid (∀ w, Tab6 w → Calls Tryd.prog 15 #[.int .u32 x0] w (RetB (.int .i64 (opW x0 : Nat)) w)) := Lib.hid fun w h => (Opcode_any x0 hx w h).mono fun _ _ h => h.toB
  have HO2 : Hid (∀ w, Calls Tryd.prog 16 #[.int .u32 x0] w (RetB (.int .i64 (opW x0 : Nat)) w)) := Lib.hid fun w => ROpcode_any x0 hx w
  have hten := Ten.made w i 24
  obtain ⟨X, hX⟩ : ∃ X, X = w.heap.size := ⟨_, rfl⟩
  obtain ⟨W0, hW0⟩ : ∃ W0, W0 = w.alloc (.cells (inC i) 24) := ⟨_, rfl⟩
  have hXl : X < W0.heap.size := by rw [hX, hW0]; simp
  rw [← hW0, ← hX] at hten
  have HW : Hid (Below w.heap.size w W0) := Lib.hid (by rw [hW0]; exact (Below.refl _ w).alloc (Nat.le_refl _) _)
  have HA := Lib.hid hten
  have HEQ := Lib.hid hW0
  have HXQ := Lib.hid hX
  have HB := Lib.hid (Below.refl W0.heap.size W0)
  have HTT : Hid (∀ wx, Below W0.heap.size W0 wx → Tab6 wx) := Lib.hid fun wx hb => HT.out.below (HW.out.trans (hb.mono HW.out.size))
  clear hX hW0 hten hw hi
  generalize (encP i).1 = p1 at *
  generalize (encP i).2 = p2 at *
  generalize (dI x0).1 = r at *
  generalize (dI x0).2 = er at *
  generalize (baseI op).1 = b1 at *
  generalize (baseI op).2 = b2 at *
  generalize opW x0 = ow at *
  obtain ⟨o, d, n, m, a, x, k, hh, t, c⟩ := i
  obtain ⟨o', d', n', m', a', x', k', hh', t', c'⟩ := r
  go_enter Tryd.func3, Tryd.ntmps3
  go_wp2_with fail
  rw [← HEQ.out, ← HXQ.out]
  refine (HE1.out _ (HTT.out _ HB.out)).mono ?_
  rintro e w1 ⟨rfl, hb⟩
  replace HB := Lib.hid (after HB.out hb)
  clear hb
  obtain ⟨a0, a1, a2, a3, a4, a5, a6, a7, a8, a9⟩ := HA.out.below HB.out hXl
  go_wp2_with (first
    | (go_at_call 9; ((with_reducible refine (HE2.out _).mono ?_); rintro e w2 ⟨rfl, hb⟩; replace HB := Lib.hid (after HB.out hb); clear hb a0 a1 a2 a3 a4 a5 a6 a7 a8 a9))
    | (go_at_call 10; ((with_reducible refine (HD1.out _ (HTT.out _ HB.out)).mono ?_); rintro e w3 ⟨rfl, hb⟩; replace HB := Lib.hid (after HB.out hb); clear hb))
    | (go_at_call 11; ((with_reducible refine (HD2.out _).mono ?_); rintro e w4 ⟨rfl, hb⟩; have hx4 := (hb.block w3.heap.size (by simp)).trans (MapKept.heap_alloc w3 _).1; replace HB := Lib.hid (after (bel_alloc HB.out _) hb); clear hb))
    | (go_at_call 12; ((with_reducible refine (HB1.out _ (HTT.out _ (bel_alloc HB.out _))).mono ?_); rintro e w' ⟨rfl, rfl⟩))
    | (go_at_call 13; ((with_reducible refine (HB2.out _).mono ?_); rintro e w6 ⟨rfl, hb⟩; have l1 := (Array.getElem?_eq_some_iff.1 hx4).1; have hx6 := (hb.block w3.heap.size (by simp; omega)).trans ((Below.heap_alloc _ _ _ l1).trans hx4); have hy6 := (hb.block w4.heap.size (by simp)).trans (MapKept.heap_alloc w4 _).1; replace HB := Lib.hid (after (bel_alloc HB.out _) hb); clear hb l1 hx4))
    | (go_at_call 14; ((with_reducible refine (HC.out _ (HTT.out _ HB.out)).mono ?_); rintro e w7 ⟨rfl, hb⟩; have hx7 := (hb.block _ (Array.getElem?_eq_some_iff.1 hx6).1).trans hx6; have hy7 := (hb.block _ (Array.getElem?_eq_some_iff.1 hy6).1).trans hy6; replace HB := Lib.hid (after HB.out hb); clear hb hx6 hy6; have x0 : w7.cell? ⟨w3.heap.size, 0, none⟩ = some (.int .i64 o') := cel hx7; have x1 : w7.cell? ⟨w3.heap.size, 1, none⟩ = some (.int .i64 d') := cel hx7; have x2 : w7.cell? ⟨w3.heap.size, 2, none⟩ = some (.int .i64 n') := cel hx7; have x3 : w7.cell? ⟨w3.heap.size, 3, none⟩ = some (.int .i64 m') := cel hx7; have x4 : w7.cell? ⟨w3.heap.size, 4, none⟩ = some (.int .i64 a') := cel hx7; have x5 : w7.cell? ⟨w3.heap.size, 5, none⟩ = some (.int .i64 x') := cel hx7; have x6 : w7.cell? ⟨w3.heap.size, 6, none⟩ = some (.int .u64 k') := cel hx7; have x7 : w7.cell? ⟨w3.heap.size, 7, none⟩ = some (.int .i64 hh') := cel hx7; have x8 : w7.cell? ⟨w3.heap.size, 8, none⟩ = some (.int .i64 t') := cel hx7; have x9 : w7.cell? ⟨w3.heap.size, 9, none⟩ = some (.int .i64 c') := cel hx7; have y0 : w7.cell? ⟨w4.heap.size, 0, none⟩ = some (.int .i64 o') := cel hy7; have y1 : w7.cell? ⟨w4.heap.size, 1, none⟩ = some (.int .i64 d') := cel hy7; have y2 : w7.cell? ⟨w4.heap.size, 2, none⟩ = some (.int .i64 n') := cel hy7; have y3 : w7.cell? ⟨w4.heap.size, 3, none⟩ = some (.int .i64 m') := cel hy7; have y4 : w7.cell? ⟨w4.heap.size, 4, none⟩ = some (.int .i64 a') := cel hy7; have y5 : w7.cell? ⟨w4.heap.size, 5, none⟩ = some (.int .i64 x') := cel hy7; have y6 : w7.cell? ⟨w4.heap.size, 6, none⟩ = some (.int .u64 k') := cel hy7; have y7 : w7.cell? ⟨w4.heap.size, 7, none⟩ = some (.int .i64 hh') := cel hy7; have y8 : w7.cell? ⟨w4.heap.size, 8, none⟩ = some (.int .i64 t') := cel hy7; have y9 : w7.cell? ⟨w4.heap.size, 9, none⟩ = some (.int .i64 c') := cel hy7; clear hx7 hy7))
    | (go_at_call 15; ((with_reducible refine (HO1.out _ (HTT.out _ HB.out)).mono ?_); rintro e w8 ⟨rfl, hb⟩; replace HB := Lib.hid (after HB.out hb); clear hb))
    | (go_at_call 16; ((with_reducible refine (HO2.out _).mono ?_); rintro e w9 ⟨rfl, hb⟩; replace HB := Lib.hid (after HB.out hb); clear hb)))
  go_ret
  exact retB_bool (by simp) (HW.out.trans (HB.out.mono HW.out.size))
theorem CodeDoes_walk (i : In) (hi : InB i) (x : Int) (hx : 0 ≤ x ∧ x < 4294967296) (op : Int) (hop : -9223372036854775808 ≤ op ∧ op ≤ 9223372036854775807) (w : World) (hw : Tab6 w) : Calls Tryd.prog 3 #[inV i, .int .u32 x, .int .i64 op] w (RetB (.bool true) w) := by
  obtain ⟨k, rfl⟩ := Int.eq_ofNat_of_zero_le hx.1
  exact CodeDoes_nat i hi k (by omega) op w hw
end Go.Proofs.YtfhpcjeefdkacaaDoor
