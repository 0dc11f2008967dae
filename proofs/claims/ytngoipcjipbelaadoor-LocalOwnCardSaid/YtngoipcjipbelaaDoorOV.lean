/- operand: Parse, its loop. -/
import Derived.Test.YtngoipcjipbelaaDoorOU
import Derived.Deep.AppendLies
namespace Go.Proofs.YtngoipcjipbelaaDoor
set_option linter.unusedVariables false
set_option linter.unusedSimpArgs false
open Go.ChangeShapes Go.WideShapes Go.Deep Go.RowKit

theorem po_one (o : Po) : ∀ u ∈ poC o, u.oneCell' = true := by simp [poC, Value.oneCell']
set_option maxRecDepth 100000 in
set_option maxHeartbeats 8000000 in
theorem Parse_main {w : World} {a : Option Addr} {c : Nat} {ts : List Ti} (hsl : SL tiC 3 w w.heap.size a ts.length ts) (hT : TabO w) (hg : GoodTs ts) (hn : ts.length ≤ 1000000) (hts : ts.isEmpty = false) {o : Po} {l1 : List Ti} {g1 : Bool} (hop : operP ts = some (o, l1, g1)) :
    Calls Tryd.prog 27 #[.slice a ts.length c] w (ParseP ts w) := by
  have HRes : Hid (parseL ts = resP (aft [o] g1 l1)) := Lib.hid (by
    rw [parse_res (by rintro rfl; cases hts), aft_first hop])
  have HO := Lib.hid hop
  have HBE := Lib.hid (rfl : w.heap.size = w.heap.size)
  clear hop
  have hmf : ∀ (fn : Fn) (first cap : Array Value) (w : World), (Instr.makeFunc fn first cap).run Tryd.prog w = .ok (.func fn first cap) w := fun _ _ _ _ => rfl
  have hE : ∀ w, (zeroValue 22).run Tryd.prog w = .ok (.int .i64 0) w := fun w => by kernel_rfl
  obtain ⟨B, hB⟩ : ∃ B, B = w.heap.size := ⟨_, rfl⟩
  have h0 := Lib.hid (PSt.mk0 (c := c) hsl hT hg hn)
  rw [← hB] at h0
  obtain ⟨n, hnn⟩ : ∃ n, n = ts.length := ⟨_, rfl⟩
  rw [← hnn] at h0 ⊢
  have HE := Lib.hid hts
  clear hsl hT hg hn hnn hts
  go_enter_defers Tryd.func27, Tryd.ntmps27
  go_wp2_with fail
  rw [← hB]
  replace HBE := Lib.hid hB
  clear hB
  rw [show B + 1 + 1 = B + 2 from rfl]
  change Hid (PSt w (((w.alloc (.cells #[.slice none 0 0] 44)).alloc (.cells #[.int .i64 0] 22)).alloc (.cells #[.slice a n c, .int .i64 0, .bool false] 89)) B (.slice none 0 0) [] ts false) at h0
  generalize ((w.alloc (.cells #[.slice none 0 0] 44)).alloc (.cells #[.int .i64 0] 22)).alloc (.cells #[.slice a n c, .int .i64 0, .bool false] 89) = W0 at h0 ⊢
  refine (ended_r h0.out.r).mono ?_
  rintro e u1 ⟨rfl, hR, hK⟩
  rw [HE.out]
  have H1 := Lib.hid (h0.out.call hR hK (Nat.le_refl _))
  clear hR hK
  obtain ⟨os, va, vc, hos, hv⟩ : ∃ os va vc, os = ([] : List Po) ∧ Value.slice none 0 0 = .slice va os.length vc := ⟨[], none, 0, rfl, rfl⟩
  rw [← hos, hv] at H1
  have HOS := Lib.hid hos
  clear hos hv
  have hno : (Value.slice va os.length vc).ownBlock ≠ some B := fun e => by have := (H1.out.o.lt B e).1; omega
  have hlen := Lib.hid (Nat.le_of_lt (oper_short HO.out))
  have hkn : os.length + 1 + l1.length ≤ 1000000 := by have := H1.out.n; have := oper_short HO.out; (try simp only [List.length_cons] at *); omega
  have p0 : _ := H1.out.facts.1
  have p4 : _ := H1.out.facts.2.1
  obtain ⟨i0, hi0, hz0, hz1, hz2⟩ := info_parts info_opnd
  go_wp2_with fail
  first | (go_region_law ((first
    | (go_simp; go_at_call 52; refine (oper_ok (H1.out.r.drewN 1) HO.out).mono ?_; rintro e u2 ⟨rfl, hR, hK⟩; have H2 := Lib.hid ((H1.out.drewN 1).call hR hK hlen.out); have s0 := H2.out.facts.1; have s4 := H2.out.facts.2.1; have s5 := H2.out.facts.2.2.2.2.1; have s6 := H2.out.facts.2.2.2.2.2; clear hR hK)
    | (refine step_append_lies _ (by rfl) _ _ _ (by rfl) (B + 3) 86 i0 _ 7 56 Tryd.underlying44 hi0 hz0 hz1 hz2 rfl (by omega) (.slice va os.length vc) os.length (os.flatMap poC) (by rfl) (H2.out.o.alloc _) ⟨u2.heap.size, 0, none⟩ 1 1 (poC o) (by rfl) (by rfl) (World.news_of_block (cs := poA o) (t := 86) (fr := (0, 0)) (heap_alloc_new u2 _)) (po_one o) (by omega) (by unfold maxLen; omega) (by omega) (by simp; omega) (u2.heap.size + 1) (by simp) ?_; intro g3 cap w3 hown3 hgrow hat hlt3; have t0 : w3.cell? ⟨B, 0, none⟩ = some (.slice va os.length vc) := (hgrow.cell_far _ (by simp; omega) (Ne.symm hno)).trans ((World.cell?_alloc_past (w := u2) _ _ _ s5).trans s0); have t4 : w3.frozen? ⟨B, 0, none⟩ = false := (hgrow.frozen_far _ (by simp; omega) (Ne.symm hno)).trans ((World.frozen?_alloc_past (w := u2) _ _ _ s5).trans s4))))) | fail
  all_goals
    have H3 := Lib.hid (H2.out.append hkn hown3 hgrow)
    have HI : Hid (parseL ts = resP (aft (os ++ [o]) (false || g1) l1)) := Lib.hid (by rw [HOS.out]; exact HRes.out)
    generalize w3.setCell ⟨B, 0, none⟩ (.slice (some ⟨g3, 0, none⟩) (os.length + 1) cap) = W3 at H3 ⊢
    clear t0 t4 s0 s4 s5 s6 p0 p4 hown3 hgrow hat hlt3 H2 H1 hno hkn hlen
    go_wp2_with fail
    go_loopg [] (l1.length) (fun k wl => ∃ v os l g, Hid (PSt w wl B v os l g) ∧ Hid (parseL ts = resP (aft os g l)) ∧ Hid (k = l.length))
    case atStart => exact ⟨_, _, _, _, H3, HI, Lib.hid rfl⟩
    case round =>
      clear H3 HI HOS HO
      obtain ⟨v, os, l, g, HA, HP, HK⟩ := hrel
      obtain ⟨va, vc, hv⟩ := own_slice HA.out.o
      subst hv
      cases l with
      | nil =>
        have HEn : Hid (Calls Tryd.prog 51 #[.pointer (some ⟨B + 2, 0, none⟩)] _ (Did (.bool true) (B + 2) [] g _)) := Lib.hid (ended_r HA.out.r)
        go_wp2_with fail
        refine HEn.out.mono ?_
        rintro e u3 ⟨rfl, hR, hK⟩
        have H4 := Lib.hid (HA.out.call hR hK (Nat.le_refl _))
        clear hR hK
        obtain ⟨gf, gc, -⟩ := H4.out.r.great
        obtain ⟨f0, f1, f2, f3, f4, f5⟩ := H4.out.facts
        cases g
        · have HRv : Hid (parseL ts = (os, 0)) := Lib.hid (by rw [HP.out, aft_end]; rfl)
          have HQ := Lib.hid (H4.out.put2 (x := .slice va os.length vc) (y := 0))
          have HW := Lib.hid (H4.out.own2 (y := 0))
          go_wp2
          refine leaves_cons (f := 50) (args := #[.pointer (some ⟨B, 0, none⟩), .pointer (some ⟨B + 1, 0, none⟩)]) (by simp) (by simp [go_sem]) ?_
          refine (pidle B (B + 1) _).mono ?_
          rintro e u' w4 ⟨rfl, rfl, hw4⟩
          have b0 : w4.cell? ⟨B, 0, none⟩ = some (.slice va os.length vc) := by rw [hw4, World.cell?, HQ.out.1]; rfl
          have d0 : w4.cell? ⟨B + 1, 0, none⟩ = some (.int .i64 0) := by rw [hw4, World.cell?, HQ.out.2.1]; rfl
          simp [Leaves, settle, results, Tryd.results27, go_sem, b0, d0]
          rw [hw4]
          obtain ⟨a', c', hv2, hsl, hnil⟩ := SL.ofOwns po_len (by omega) HW.out
          cases hv2
          unfold ParseP
          rw [HRv.out]
          exact ⟨va, vc, rfl, hsl, ⟨hnil, own_cap HW.out⟩, HQ.out.2.2⟩
        · have HR : Hid (parseL ts = ([], 4)) := Lib.hid (by rw [HP.out, aft_end]; rfl)
          have HQ := Lib.hid (H4.out.put2 (x := .slice none 0 0) (y := 4))
          go_wp2
          refine leaves_cons (f := 50) (args := #[.pointer (some ⟨B, 0, none⟩), .pointer (some ⟨B + 1, 0, none⟩)]) (by simp) (by simp [go_sem]) ?_
          refine (pidle B (B + 1) _).mono ?_
          rintro e u' w4 ⟨rfl, rfl, hw4⟩
          have b0 : w4.cell? ⟨B, 0, none⟩ = some (.slice none 0 0) := by rw [hw4, World.cell?, HQ.out.1]; rfl
          have d0 : w4.cell? ⟨B + 1, 0, none⟩ = some (.int .i64 4) := by rw [hw4, World.cell?, HQ.out.2.1]; rfl
          simp [Leaves, settle, results, Tryd.results27, go_sem, b0, d0]
          rw [hw4]
          exact ParseP.bad HR.out rfl HQ.out.2.2
      | cons t r =>
        have HEn : Hid (Calls Tryd.prog 51 #[.pointer (some ⟨B + 2, 0, none⟩)] _ (Did (.bool false) (B + 2) (t :: r) g _)) := Lib.hid (ended_r HA.out.r)
        go_wp2_with fail
        refine HEn.out.mono ?_
        rintro e u3 ⟨rfl, hR, hK⟩
        have H4 := Lib.hid (HA.out.call hR hK (Nat.le_refl _))
        clear hR hK
        cases hc : isSg coB t
        · have HR : Hid (parseL ts = ([], 3)) := Lib.hid (by rw [HP.out, aft_none (.inl hc)]; rfl)
          have HC : Hid (isSg coB (nextT (t :: r)) = false) := Lib.hid hc
          clear hc
          go_wp2_with fail
          refine (want_no H4.out.r coB HC.out).mono ?_
          rintro e u4 ⟨rfl, hK⟩
          have HF := Lib.hid (H4.out.thr hK)
          clear hK
          refine leaves_cons (f := 50) (args := #[.pointer (some ⟨B, 0, none⟩), .pointer (some ⟨B + 1, 0, none⟩)]) (by simp) (by simp [go_sem]) ?_
          refine (pcatch B (B + 1) _ 0 _ _ [] _ HF.out.1 HF.out.2.1 (by omega)).mono ?_
          rintro e u' w4 ⟨rfl, rfl, hw4⟩
          have hB4 : w4.heap[B]? = some (.cells #[.slice none 0 0] 44 (0, 0)) := by rw [hw4]; exact (hother (by omega)).trans (hset HF.out.1)
          have hC4 : w4.heap[B + 1]? = some (.cells #[.int .i64 3] 22 (0, 0)) := by rw [hw4]; exact hset ((hother (by omega)).trans HF.out.2.1)
          have hb4 : Below w.heap.size w w4 := by
            rw [hw4]
            exact (HF.out.2.2.setCell (p := ⟨B, 0, none⟩) (by show w.heap.size ≤ B; rw [HBE.out]; exact Nat.le_refl _) _).setCell (p := ⟨B + 1, 0, none⟩) (by show w.heap.size ≤ B + 1; rw [HBE.out]; omega) _
          have b0 : w4.cell? ⟨B, 0, none⟩ = some (.slice none 0 0) := by rw [World.cell?, hB4]; rfl
          have d0 : w4.cell? ⟨B + 1, 0, none⟩ = some (.int .i64 3) := by rw [World.cell?, hC4]; rfl
          simp [Leaves, settle, results, Tryd.results27, go_sem, b0, d0]
          exact ParseP.bad HR.out rfl hb4
        · have HC := Lib.hid hc
          clear hc
          cases hop : operP r with
          | none =>
            have HR : Hid (parseL ts = ([], 3)) := Lib.hid (by rw [HP.out, aft_none (.inr hop)]; rfl)
            have HO := Lib.hid hop
            clear hop
            go_wp2_with fail
            refine (want_yes H4.out.r coB HC.out).mono ?_
            rintro e u4 ⟨rfl, hR, hK⟩
            have H5 := Lib.hid (H4.out.call hR hK (by simp))
            clear hR hK
            obtain ⟨f0, f1, f2, f3, f4, f5⟩ := H5.out.facts
            go_wp2_with fail
            refine wp_region_any (by kernel_rfl) ?_
            try (change wpAny _ _ _ _ _ _ _ (World.drew _))
            refine wpAny_ready (rs := [0, 1]) (by kernel_rfl) (by simp) ?_
            refine AllReady.cons rfl (fun K hK => ?_) (AllReady.cons rfl (fun K hK => ?_) AllReady.nil)
            · go_simp
              refine hK _ _ ?_
              clear hK K
              refine wpAny_ready (rs := [1]) (by kernel_rfl) (by simp) ?_
              refine AllReady.cons rfl (fun K hK => ?_) AllReady.nil
              go_simp
              refine hK _ _ ?_
              clear hK K
              refine wpAny_ready (rs := [2]) (by kernel_rfl) (by simp) ?_
              refine AllReady.cons rfl (fun K hK => ?_) AllReady.nil
              go_simp
              go_at_call 52
              refine (oper_none (H5.out.r.drewN 1) HO.out).mono ?_
              rintro e u2 ⟨rfl, hK⟩
              have HF := Lib.hid ((H5.out.drewN 1).thr hK)
              refine leaves_cons (f := 50) (args := #[.pointer (some ⟨B, 0, none⟩), .pointer (some ⟨B + 1, 0, none⟩)]) (by simp) (by simp [go_sem]) ?_
              refine (pcatch B (B + 1) _ 0 _ _ [] _ HF.out.1 HF.out.2.1 (by omega)).mono ?_
              rintro e u' w4 ⟨rfl, rfl, hw4⟩
              have hB4 : w4.heap[B]? = some (.cells #[.slice none 0 0] 44 (0, 0)) := by rw [hw4]; exact (hother (by omega)).trans (hset HF.out.1)
              have hC4 : w4.heap[B + 1]? = some (.cells #[.int .i64 3] 22 (0, 0)) := by rw [hw4]; exact hset ((hother (by omega)).trans HF.out.2.1)
              have hb4 : Below w.heap.size w w4 := by
                rw [hw4]
                exact (HF.out.2.2.setCell (p := ⟨B, 0, none⟩) (by show w.heap.size ≤ B; rw [HBE.out]; exact Nat.le_refl _) _).setCell (p := ⟨B + 1, 0, none⟩) (by show w.heap.size ≤ B + 1; rw [HBE.out]; omega) _
              have b0 : w4.cell? ⟨B, 0, none⟩ = some (.slice none 0 0) := by rw [World.cell?, hB4]; rfl
              have d0 : w4.cell? ⟨B + 1, 0, none⟩ = some (.int .i64 3) := by rw [World.cell?, hC4]; rfl
              simp [Leaves, settle, results, Tryd.results27, go_sem, b0, d0]
              exact ParseP.bad HR.out rfl hb4
            · go_simp
              refine hK _ _ ?_
              clear hK K
              refine wpAny_ready (rs := [0, 2]) (by kernel_rfl) (by simp) ?_
              refine AllReady.cons rfl (fun K hK => ?_) (AllReady.cons rfl (fun K hK => ?_) AllReady.nil)
              · go_simp
                refine hK _ _ ?_
                clear hK K
                refine wpAny_ready (rs := [2]) (by kernel_rfl) (by simp) ?_
                refine AllReady.cons rfl (fun K hK => ?_) AllReady.nil
                go_simp
                go_at_call 52
                refine (oper_none (H5.out.r.drewN 1) HO.out).mono ?_
                rintro e u2 ⟨rfl, hK⟩
                have HF := Lib.hid ((H5.out.drewN 1).thr hK)
                refine leaves_cons (f := 50) (args := #[.pointer (some ⟨B, 0, none⟩), .pointer (some ⟨B + 1, 0, none⟩)]) (by simp) (by simp [go_sem]) ?_
                refine (pcatch B (B + 1) _ 0 _ _ [] _ HF.out.1 HF.out.2.1 (by omega)).mono ?_
                rintro e u' w4 ⟨rfl, rfl, hw4⟩
                have hB4 : w4.heap[B]? = some (.cells #[.slice none 0 0] 44 (0, 0)) := by rw [hw4]; exact (hother (by omega)).trans (hset HF.out.1)
                have hC4 : w4.heap[B + 1]? = some (.cells #[.int .i64 3] 22 (0, 0)) := by rw [hw4]; exact hset ((hother (by omega)).trans HF.out.2.1)
                have hb4 : Below w.heap.size w w4 := by
                  rw [hw4]
                  exact (HF.out.2.2.setCell (p := ⟨B, 0, none⟩) (by show w.heap.size ≤ B; rw [HBE.out]; exact Nat.le_refl _) _).setCell (p := ⟨B + 1, 0, none⟩) (by show w.heap.size ≤ B + 1; rw [HBE.out]; omega) _
                have b0 : w4.cell? ⟨B, 0, none⟩ = some (.slice none 0 0) := by rw [World.cell?, hB4]; rfl
                have d0 : w4.cell? ⟨B + 1, 0, none⟩ = some (.int .i64 3) := by rw [World.cell?, hC4]; rfl
                simp [Leaves, settle, results, Tryd.results27, go_sem, b0, d0]
                exact ParseP.bad HR.out rfl hb4
              · go_simp
                go_at_call 52
                refine (oper_none (H5.out.r.drewN 1) HO.out).mono ?_
                rintro e u2 ⟨rfl, hK⟩
                have HF := Lib.hid ((H5.out.drewN 1).thr hK)
                refine leaves_cons (f := 50) (args := #[.pointer (some ⟨B, 0, none⟩), .pointer (some ⟨B + 1, 0, none⟩)]) (by simp) (by simp [go_sem]) ?_
                refine (pcatch B (B + 1) _ 0 _ _ [] _ HF.out.1 HF.out.2.1 (by omega)).mono ?_
                rintro e u' w4 ⟨rfl, rfl, hw4⟩
                have hB4 : w4.heap[B]? = some (.cells #[.slice none 0 0] 44 (0, 0)) := by rw [hw4]; exact (hother (by omega)).trans (hset HF.out.1)
                have hC4 : w4.heap[B + 1]? = some (.cells #[.int .i64 3] 22 (0, 0)) := by rw [hw4]; exact hset ((hother (by omega)).trans HF.out.2.1)
                have hb4 : Below w.heap.size w w4 := by
                  rw [hw4]
                  exact (HF.out.2.2.setCell (p := ⟨B, 0, none⟩) (by show w.heap.size ≤ B; rw [HBE.out]; exact Nat.le_refl _) _).setCell (p := ⟨B + 1, 0, none⟩) (by show w.heap.size ≤ B + 1; rw [HBE.out]; omega) _
                have b0 : w4.cell? ⟨B, 0, none⟩ = some (.slice none 0 0) := by rw [World.cell?, hB4]; rfl
                have d0 : w4.cell? ⟨B + 1, 0, none⟩ = some (.int .i64 3) := by rw [World.cell?, hC4]; rfl
                simp [Leaves, settle, results, Tryd.results27, go_sem, b0, d0]
                exact ParseP.bad HR.out rfl hb4
          | some x =>
            obtain ⟨o, l2, g2⟩ := x
            have HP2 : Hid (parseL ts = resP (aft (os ++ [o]) (g || g2) l2)) := Lib.hid (by rw [HP.out, aft_more HC.out hop])
            have HO := Lib.hid hop
            clear hop
            go_wp2_with fail
            refine (want_yes H4.out.r coB HC.out).mono ?_
            rintro e u4 ⟨rfl, hR, hK⟩
            have H5 := Lib.hid (H4.out.call hR hK (by simp))
            clear hR hK
            have hno : (Value.slice va os.length vc).ownBlock ≠ some B := fun e => by have := (H5.out.o.lt B e).1; omega
            have hlen := Lib.hid (Nat.le_of_lt (oper_short HO.out))
            have hkn : os.length + 1 + l2.length ≤ 1000000 := by have := H5.out.n; have := oper_short HO.out; (try simp only [List.length_cons] at *); omega
            have p0 : _ := H5.out.facts.1
            have p4 : _ := H5.out.facts.2.1
            obtain ⟨i0, hi0, hz0, hz1, hz2⟩ := info_parts info_opnd
            go_wp2_with fail
            first | (go_region_law ((first
              | (go_simp; go_at_call 52; refine (oper_ok (H5.out.r.drewN 1) HO.out).mono ?_; rintro e u2 ⟨rfl, hR, hK⟩; have H2 := Lib.hid ((H5.out.drewN 1).call hR hK hlen.out); have s0 := H2.out.facts.1; have s4 := H2.out.facts.2.1; have s5 := H2.out.facts.2.2.2.2.1; have s6 := H2.out.facts.2.2.2.2.2; clear hR hK)
              | (refine step_append_lies _ (by rfl) _ _ _ (by rfl) (B + 3) 86 i0 _ 7 56 Tryd.underlying44 hi0 hz0 hz1 hz2 rfl (by omega) (.slice va os.length vc) os.length (os.flatMap poC) (by rfl) (H2.out.o.alloc _) ⟨u2.heap.size, 0, none⟩ 1 1 (poC o) (by rfl) (by rfl) (World.news_of_block (cs := poA o) (t := 86) (fr := (0, 0)) (heap_alloc_new u2 _)) (po_one o) (by omega) (by unfold maxLen; omega) (by omega) (by simp; omega) (u2.heap.size + 1) (by simp) ?_; intro g3 cap w3 hown3 hgrow hat hlt3; have t0 : w3.cell? ⟨B, 0, none⟩ = some (.slice va os.length vc) := (hgrow.cell_far _ (by simp; omega) (Ne.symm hno)).trans ((World.cell?_alloc_past (w := u2) _ _ _ s5).trans s0); have t4 : w3.frozen? ⟨B, 0, none⟩ = false := (hgrow.frozen_far _ (by simp; omega) (Ne.symm hno)).trans ((World.frozen?_alloc_past (w := u2) _ _ _ s5).trans s4))))) | fail
            all_goals
              have H6 := Lib.hid (H2.out.append hkn hown3 hgrow)
              have HLL := Lib.hid (oper_short HO.out)
              clear t0 t4 s0 s4 s5 s6 p0 p4 hown3 hgrow hat hlt3 H2 hno hkn hlen
              go_wp2_with fail
              go_roundg (l2.length)
              case measure => have := HLL.out; have := HK.out; simp only [List.length_cons] at *; omega
              case rel => exact ⟨_, _, _, _, H6, HP2, Lib.hid rfl⟩
theorem Parse_any {w : World} {a : Option Addr} {c : Nat} {ts : List Ti} (hsl : SL tiC 3 w w.heap.size a ts.length ts) (hT : TabO w) (hg : GoodTs ts) (hn : ts.length ≤ 1000000) :
    Calls Tryd.prog 27 #[.slice a ts.length c] w (ParseP ts w) := by
  cases he : ts.isEmpty with
  | true => exact Parse_empty hsl hT hg hn he
  | false =>
    cases hop : operP ts with
    | none => exact Parse_no1 hsl hT hg hn he hop
    | some x => obtain ⟨o, l1, g1⟩ := x; exact Parse_main hsl hT hg hn he hop
end Go.Proofs.YtngoipcjipbelaaDoor
