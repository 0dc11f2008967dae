/- sym's law: SymMore. -/
import Derived.Test.YtdgfadabaejkhaaGreatDoorkVC
namespace Go.Proofs.YtdgfadabaejkhaaGreatDoor
set_option linter.unusedVariables false
set_option linter.unusedSimpArgs false
open Go.ChangeShapes Go.WideShapes Go.Deep Go.RowKit

theorem oxg_is {w : World} {o : Ox} (hG : OxG w o) (hT : TabP w) {u : World} (hu : Below w.heap.size w u) : Calls Tryz.prog 24 #[.agg #[.slice o.a o.L.length o.c, .slice o.a2 o.l.length o.c2]] u (RetB (.bool (isO (obOf o))) u) := by
  have h := hG.next hu
  exact oIs_any o.a _ o.c o.L o.a2 _ o.c2 o.l h.l1 h.l2 u h.s1 h.no h.gd h.s2 h.gs (hT.next hu)
theorem info_obj : (Tryz.prog.info? 25).map (fun i => (i.zero, i.size, i.bytes)) = some (some (.agg #[.slice none 0 0, .slice none 0 0]), 2, 48) := by kernel_rfl
theorem ox_one (o : Ox) : ∀ u ∈ oxC o, u.oneCell' = true := by
  intro u hu
  simp only [oxC, List.mem_cons, List.not_mem_nil, or_false] at hu
  rcases hu with rfl | rfl <;> rfl
theorem os_more {u : World} {a a' : Option Addr} {n : Nat} {Os : List Ox} {o : Ox} (hO : OS u u.heap.size a n Os) (hG : OxG u o) (hn : n < 8) (h : SL oxC 2 u u.heap.size a' (n + 1) (Os ++ [o])) : OS u u.heap.size a' (n + 1) (Os ++ [o]) := by
  have key : ∀ x ∈ Os ++ [o], OxG u x := by
    intro x hx
    rcases List.mem_append.1 hx with hx | hx
    · exact hO.at hx
    · rw [List.mem_singleton] at hx; subst hx; exact hG
  exact ⟨h, fun x hx => (key x hx).s1, fun x hx => (key x hx).no, fun x hx => (key x hx).s2, fun x hx => (key x hx).gd, fun x hx => (key x hx).gs, fun x hx => (key x hx).l1, fun x hx => (key x hx).l2, by unfold maxLen; omega⟩
theorem PRows.take {u : World} {Z n : Nat} {rs : List Rw} (h : PRows u (some ⟨Z, 0, none⟩) (n + 1) rs) : PRows u (some ⟨Z, 0, none⟩) n (rs.take n) := by
  have hl := h.sl.len
  refine ⟨⟨by rw [List.length_take]; omega, fun hne => ?_⟩, fun r hr => h.s1 r (List.mem_of_mem_take hr)⟩
  obtain ⟨b, off, e, hB, hc⟩ := h.sl.cells (by intro e; rw [e] at hl; simp at hl)
  refine ⟨b, off, e, hB, fun k hk j hj => ?_⟩
  have hk2 : k < rs.length := by rw [List.length_take] at hk; omega
  rw [hc k hk2 j hj]
  simp [List.getElem_take]
theorem rows_lens2 {os : List Ob} (hc : checkL os = 0) {rs : List Rw} (h : rs.map (·.l) = rowsL os) : ∀ r ∈ rs, r.l.length ≤ 1000000 := by
  intro r hr
  have h1 : r.l ∈ rowsL os := h ▸ List.mem_map.2 ⟨r, hr, rfl⟩
  obtain ⟨i, hi⟩ := List.getElem?_of_mem h1
  unfold rowsL at hi
  rw [rowsA_get, Option.map_eq_some_iff] at hi
  obtain ⟨x, hx, hxe⟩ := hi
  rw [List.getElem?_map, Option.map_eq_some_iff] at hx
  obtain ⟨ob, ho, rfl⟩ := hx
  have := (isO_syms ((checkL_zero.1 hc).2 ob (List.mem_of_getElem? ho))).2.1
  rw [← hxe, List.length_map]
  omega
theorem fault_code {os : List Ob} (h : faultL os ≠ flZ) : (faultL os).code ≠ 0 := by
  by_cases hck : checkL os = 0
  · cases htw : (flatO os).find? (twiceB (plcL (flatO os))) with
    | some x => rw [fault_tw hck htw]; simp [fltAt]
    | none =>
      have h0 := fault_lo hck htw
      cases hlo : (flatO os).find? (lostB (plcL (flatO os))) with
      | some x => rw [h0, hlo]; simp [fltAt]
      | none => rw [hlo] at h0; exact absurd h0 h
  · rw [fault_ck hck]; exact hck
theorem fault_ok {os : List Ob} (h : faultL os = flZ) : checkL os = 0 := by
  apply Classical.byContradiction
  intro hn
  have := fault_ck hn
  rw [h] at this
  exact hn (congrArg Flt.code this).symm
set_option maxRecDepth 100000 in
set_option maxHeartbeats 6000000 in
theorem SymMore_walk (w : World) (a : Option Addr) (n c : Nat) (Os : List Ox) (hO : OS w w.heap.size a n Os) (hz : a = none → n = 0 ∧ c = 0) (o : Ox) (hG : OxG w o) (hT : TabP w) : Calls Tryz.prog 7 #[.slice a n c, .agg #[.slice o.a o.L.length o.c, .slice o.a2 o.l.length o.c2]] w (RetB (.bool true) w) := by
  have HRs := Lib.hid (fun u (hu : Below w.heap.size w u) => resolved_is u (hT.next hu))
  have HRes := Lib.hid (fun u (hu : Below w.heap.size w u) => resolve_any a n c Os u (hO.next hu) (hT.next hu))
  have HIs := Lib.hid (fun u (hu : Below w.heap.size w u) => oxg_is hG hT hu)
  have HT := Lib.hid hT
  have HG := Lib.hid hG
  have HO := Lib.hid hO
  have HZ := Lib.hid hz
  have hmi : (o.l.length : Int) ≤ 9223372036854775807 := by have := hG.l2; unfold maxLen at this; omega
  have hni : (n : Int) ≤ 9223372036854775807 := by have := hO.ln; unfold maxLen at this; omega
  obtain ⟨H, hH⟩ : ∃ H, H = w.heap.size := ⟨_, rfl⟩
  have HH := Lib.hid hH
  have HS2 := Lib.hid hG.s2
  obtain ⟨oa, oc, oL, oa2, oc2, ol⟩ := o
  simp only [] at hmi HIs HS2 ⊢
  obtain ⟨on, hon⟩ : ∃ on, on = oL.length := ⟨_, rfl⟩
  obtain ⟨m, hm⟩ : ∃ m, m = ol.length := ⟨_, rfl⟩
  have HON := Lib.hid hon
  have HM := Lib.hid hm
  rw [← hm] at hmi
  rw [← hon, ← hm] at HIs ⊢
  obtain ⟨W0, hW0⟩ : ∃ x, x = w.alloc (.cells #[.slice oa on oc, .slice oa2 m oc2] 25) := ⟨_, rfl⟩
  have hb0 : Below w.heap.size w W0 := by rw [hW0]; exact lit_below w _
  have HRO : Hid (RB W0 H #[.slice oa on oc, .slice oa2 m oc2] 25) := Lib.hid (by rw [hW0, hH]; exact rb_new w _ _)
  have HB := Lib.hid hb0
  have HBg := Lib.hid (sBig_any a n c Os W0 (hO.next hb0))
  have HWE : Hid (w.alloc (.cells #[.slice oa on oc, .slice oa2 m oc2] 25) = W0) := Lib.hid hW0.symm
  have hnz : (n : Int) = ((n : Nat) : Int) := rfl
  clear hO hz hG hT hW0 hb0 hon hm hH hnz
  go_enter Tryz.func7, Tryz.ntmps7
  go_wp2_with fail
  rw [HWE.out, ← HH.out]
  refine HBg.out.mono ?_
  rintro e u1 ⟨r, rfl, hb⟩
  replace HB := Lib.hid (after HB.out hb)
  replace HRO := Lib.hid (HRO.out.next hb)
  clear hb HWE HBg
  have hres : ∀ u, Below w.heap.size w u → Calls Tryz.prog 32 #[] u (RetB (.bool true) u) := HRs.out
  have HRz := Lib.hid hres
  clear hres
  cases r
  · have x0 : u1.cell? ⟨H, 0, none⟩ = some (.slice oa on oc) := HRO.out.cell
    have x1 : u1.cell? ⟨H, 1, none⟩ = some (.slice oa2 m oc2) := HRO.out.cell
    obtain ⟨P, hP⟩ : ∃ x, x = u1.heap.size := ⟨_, rfl⟩
    obtain ⟨W2, hW2⟩ : ∃ x, x = u1.alloc (.cells #[.slice oa on oc, .slice oa2 m oc2] 25) := ⟨_, rfl⟩
    have hb2 : Below u1.heap.size u1 W2 := by rw [hW2]; exact lit_below u1 _
    have hos : OS W2 W2.heap.size (some ⟨P, 0, none⟩) 1 [⟨oa, oc, oL, oa2, oc2, ol⟩] := by
      have := one_obj u1 _ (HG.out.next HB.out)
      simp only [] at this
      rw [← HON.out, ← HM.out, ← hW2, ← hP] at this
      exact this
    have HBg2 := Lib.hid (sBig_any (some ⟨P, 0, none⟩) 1 1 _ W2 hos)
    have HWE : Hid (u1.alloc (.cells #[.slice oa on oc, .slice oa2 m oc2] 25) = W2) := Lib.hid hW2.symm
    have HPE := Lib.hid hP
    replace HB := Lib.hid (after HB.out hb2)
    replace HRO := Lib.hid (HRO.out.next hb2)
    clear hW2 hb2 hos hP
    go_wp2_with fail
    rw [HWE.out, ← HPE.out]
    clear x0 x1
    refine HBg2.out.mono ?_
    rintro e u2 ⟨r, rfl, hb⟩
    replace HB := Lib.hid (after HB.out hb)
    replace HRO := Lib.hid (HRO.out.next hb)
    clear hb HWE HPE HBg2
    cases r
    · by_cases h8 : 8 ≤ n
      · have h8i : (8 : Int) ≤ (n : Int) := by omega
        have h8b : decide ((n : Int) ≥ 8) = true := decide_eq_true h8i
        clear h8
        go_wp2_with fail
        refine (HRz.out _ HB.out).mono ?_
        rintro e u3 ⟨rfl, hb⟩
        have HB3 := Lib.hid (after HB.out hb)
        clear hb
        go_wp2
        go_ret
        exact ⟨rfl, HB3.out⟩
      · have h8i : ¬ (8 : Int) ≤ (n : Int) := by omega
        have h8b : decide ((n : Int) ≥ 8) = false := decide_eq_false h8i
        have HN8 : Hid (n < 8) := Lib.hid (by omega)
        have x0 : u2.cell? ⟨H, 0, none⟩ = some (.slice oa on oc) := HRO.out.cell
        have x1 : u2.cell? ⟨H, 1, none⟩ = some (.slice oa2 m oc2) := HRO.out.cell
        clear h8
        go_wp2_with fail
        refine (HIs.out _ HB.out).mono ?_
        rintro e u3 ⟨rfl, hb⟩
        replace HB := Lib.hid (after HB.out hb)
        replace HRO := Lib.hid (HRO.out.next hb)
        clear hb x0 x1 h8i h8b
        cases hi : isO (obOf ⟨oa, oc, oL, oa2, oc2, ol⟩)
        · clear hi
          go_wp2_with fail
          refine (HRz.out _ HB.out).mono ?_
          rintro e u4 ⟨rfl, hb⟩
          have HB4 := Lib.hid (after HB.out hb)
          clear hb
          go_wp2
          go_ret
          exact ⟨rfl, HB4.out⟩
        · have HIo := Lib.hid hi
          clear hi
          go_wp2
          go_loopw [5] (fun i wr => ∃ (k : Nat) (wx : World), wx = wr ∧ k ≤ m ∧ i = .int .i64 k ∧ Hid (Below w.heap.size w wx ∧ RB wx H #[.slice oa on oc, .slice oa2 m oc2] 25 ∧ ∀ y ∈ ol.take k, y.bind = 1)) (fun i _ => m - (intOf i).toNat)
          case atStart => exact ⟨0, _, rfl, by omega, rfl, Lib.hid ⟨HB.out, HRO.out, by simp⟩⟩
          case round =>
            clear HB HRO
            obtain ⟨k, wx, rfl, hk, rfl, HK⟩ := hrel
            have x1 : wx.cell? ⟨H, 1, none⟩ = some (.slice oa2 m oc2) := HK.out.2.1.cell
            by_cases hlt : k < m
            · have hlti : (k : Int) < (m : Int) := by omega
              have hk1 : k < ol.length := by have := HM.out; omega
              obtain ⟨b2, off2, hae2, hB2, hc2⟩ := (HS2.out.next HK.out.1).cells (by intro e; rw [e] at hk1; simp at hk1)
              subst hae2
              obtain ⟨d0, d1, d2, d3⟩ := sy_cells (fun q hq => hc2 k hk1 q hq)
              obtain ⟨y, hy⟩ : ∃ y, y = ol[k] := ⟨_, rfl⟩
              have HY : Hid (ol[k]? = some y) := Lib.hid (by rw [hy]; exact List.getElem?_eq_getElem hk1)
              rw [← hy] at d0 d1 d2 d3
              obtain ⟨yn, yb, ys, yo⟩ := y
              simp only [] at d0 d1 d2 d3
              generalize (⟨yn.toArray⟩ : ByteArray) = N at d0
              clear hc2 hy hB2
              by_cases hb1 : yb = 1
              · have t1 : (yb != 1) = false := by simp [hb1]
                have HB1 := Lib.hid hb1
                clear hb1
                go_wp2
                go_roundw
                case rel =>
                  refine ⟨k + 1, _, rfl, by omega, by go_num, Lib.hid ⟨HK.out.1, HK.out.2.1, fun y hy => ?_⟩⟩
                  rw [List.take_add_one, HY.out] at hy
                  rcases List.mem_append.1 hy with h | h
                  · exact HK.out.2.2 y h
                  · simp only [Option.toList_some, List.mem_singleton] at h
                    rw [h]; exact HB1.out
                case measure => simp [intOf]; omega
              · have t1 : (yb != 1) = true := by simp [hb1]
                clear hb1
                go_wp2_with fail
                refine (HRz.out _ HK.out.1).mono ?_
                rintro e u4 ⟨rfl, hb⟩
                have HB4 := Lib.hid (after HK.out.1 hb)
                clear hb
                go_wp2
                go_ret
                exact ⟨rfl, HB4.out⟩
            · have hlti : ¬ (k : Int) < (m : Int) := by omega
              have HAll : Hid (∀ y ∈ (obOf ⟨oa, oc, oL, oa2, oc2, ol⟩).syms, y.bind = 1) := Lib.hid (by
                intro y hy
                have := HK.out.2.2
                rw [List.take_of_length_le (by have := HM.out; omega)] at this
                exact this y hy)
              have HBx : Hid (Below w.heap.size w wx) := Lib.hid HK.out.1
              have HROx : Hid (RB wx H #[.slice oa on oc, .slice oa2 m oc2] 25) := Lib.hid HK.out.2.1
              clear HK
              obtain ⟨i0, hi, hz0, hz1, hz2⟩ := info_parts info_obj
              have hn8 := HN8.out
              have m1 : 0 + n ≤ maxLen := by unfold maxLen; omega
              have m2 : (0 + n) * 48 ≤ 140737488355328 := by omega
              have m3 : 0 + n + 1 ≤ maxLen := by unfold maxLen; omega
              have m4 : (0 + n + 1) * 48 ≤ 140737488355328 := by omega
              have HSl := Lib.hid (HO.out.next HBx.out).sl
              have tok1 : True := trivial
              clear hn8
              go_wp2_with (first
                | (at_builtin; have _t := tok1; refine append_SL rfl _ _ 38 rfl wx.heap.size 25 i0 (.agg #[.slice none 0 0, .slice none 0 0]) 48 Tryz.underlying38 hi hz0 hz1 hz2 rfl (by decide) ox_len ox_one _ 0 [] rfl (World.ownsRow_nil _ _ _ _) a n c Os rfl HSl.out HZ.out m1 m2 (Nat.le_refl _) ?_; intro v1 w4 hown1 hbl1 hgr1; clear tok1; have y0 : w4.cell? ⟨H, 0, none⟩ = some (.slice oa on oc) := (HROx.out.next hbl1).cell; have y1 : w4.cell? ⟨H, 1, none⟩ = some (.slice oa2 m oc2) := (HROx.out.next hbl1).cell)
                | (at_builtin; refine append_SL rfl _ _ 38 rfl wx.heap.size 25 i0 (.agg #[.slice none 0 0, .slice none 0 0]) 48 Tryz.underlying38 hi hz0 hz1 hz2 rfl (by decide) ox_len ox_one _ (0 + n) ([] ++ Os) rfl (hown1.alloc _) (some ⟨w4.heap.size, 0, none⟩) 1 1 [⟨oa, oc, oL, oa2, oc2, ol⟩] rfl (by have := SL.lit (enc := oxC) w4 25 [⟨oa, oc, oL, oa2, oc2, ol⟩] ox_len (by decide) #[.slice oa on oc, .slice oa2 m oc2] (by rw [HON.out, HM.out]; rfl) 1 rfl; rw [← World.size_alloc] at this; exact this) (fun h => by cases h) m3 m4 (by have := hbl1.size; simp; omega) ?_; intro v2 w5 hown2 hbl2 hgr2)
                | fail)
              obtain ⟨a', c', hv2, hsl2, -⟩ := SL.ofOwns (enc := oxC) ox_len (by decide) hown2
              rw [Nat.zero_add, List.nil_append] at hsl2
              rw [Nat.zero_add] at hv2
              subst hv2
              have hb45 : Below wx.heap.size wx w5 := (hbl1.trans ((lit_below w4 _).mono hbl1.size)).trans hbl2
              have HB5 := Lib.hid (after HBx.out hb45)
              have HRO5 := Lib.hid (HROx.out.next hb45)
              have HSM := Lib.hid hsl2
              clear hsl2 hbl1 hbl2 hgr1 hgr2 hown1 hown2 hb45 hi hz0 hz1 hz2 m1 m2 m3 m4 y0 y1 HBx HROx HSl
              refine (HRes.out _ HB5.out).mono ?_
              rintro e u6 h6
              have hb6 : Below w5.heap.size w5 u6 := by rcases h6 with ⟨-, -, h⟩ | ⟨-, Z, rs, -, -, -, h⟩ <;> exact h
              have hOm : OS u6 u6.heap.size a' (n + 1) (Os ++ [⟨oa, oc, oL, oa2, oc2, ol⟩]) := os_more (HO.out.next (after HB5.out hb6)) (HG.out.next (after HB5.out hb6)) HN8.out (HSM.out.next hb6)
              have HOm := Lib.hid hOm
              have HB6 := Lib.hid (after HB5.out hb6)
              have HRO6 := Lib.hid (HRO5.out.next hb6)
              have hn8 := HN8.out
              have hmo : (Os ++ [(⟨oa, oc, oL, oa2, oc2, ol⟩ : Ox)]).map obOf = Os.map obOf ++ [obOf ⟨oa, oc, oL, oa2, oc2, ol⟩] := by simp
              have hol : (Os.map obOf).length < 8 := by rw [List.length_map, ← HO.out.sl.len]; exact hn8
              have HFm : Hid (faultL ((Os ++ [(⟨oa, oc, oL, oa2, oc2, ol⟩ : Ox)]).map obOf) = faultL (Os.map obOf)) := Lib.hid (by rw [hmo]; exact fault_more hol HIo.out HAll.out)
              have HRm : Hid (rowsL ((Os ++ [(⟨oa, oc, oL, oa2, oc2, ol⟩ : Ox)]).map obOf) = rowsL (Os.map obOf) ++ [ol.map (placeA (plcL (flatO (Os.map obOf))) (Os.map obOf).length)]) := Lib.hid (by rw [hmo]; exact rows_more HAll.out)
              clear hOm hb6 hn8 hmo hol HSM HB5 HRO5
              rcases h6 with ⟨hf, rfl, -⟩ | ⟨hf, Z1, rs1, rfl, hpr, hrs, -⟩
              · have HFn := Lib.hid hf
                have HFc0 := Lib.hid (fault_code hf)
                obtain ⟨f, hff⟩ : ∃ f, f = faultL (Os.map obOf) := ⟨_, rfl⟩
                rw [← hff] at HFm HFn HFc0 ⊢
                clear hf hff
                obtain ⟨fc, fo, fs⟩ := f
                have HFc : Hid (fc ≠ 0) := HFc0
                simp only [flV]
                obtain ⟨Q1, hQ1⟩ : ∃ x, x = u6.heap.size := ⟨_, rfl⟩
                obtain ⟨W7, hW7⟩ : ∃ x, x = u6.alloc (.cells #[.int .i64 fc, .int .i64 fo, .int .i64 fs] 42) := ⟨_, rfl⟩
                have hb7 : Below u6.heap.size u6 W7 := by rw [hW7]; exact lit_below u6 _
                have HB7 := Lib.hid (after HB6.out hb7)
                have HQ7 : Hid (RB W7 Q1 #[.int .i64 fc, .int .i64 fo, .int .i64 fs] 42) := Lib.hid (by rw [hW7, hQ1]; exact rb_new u6 _ _)
                have HRes2 := Lib.hid (resolve_any a' (n + 1) c' _ W7 (HOm.out.next hb7) (HT.out.next HB7.out))
                have HWE : Hid (u6.alloc (.cells #[.int .i64 fc, .int .i64 fo, .int .i64 fs] 42) = W7) := Lib.hid hW7.symm
                have HQE := Lib.hid hQ1
                clear hW7 hb7 hQ1 HOm
                go_wp2_with fail
                rw [HWE.out, ← HQE.out]
                refine HRes2.out.mono ?_
                intro e u8 hr8
                unfold ResP at hr8
                rw [HFm.out] at hr8
                rcases hr8 with (⟨hf, rfl, hb⟩ | ⟨hf, Z, rs, rfl, hpr, hrs, hb⟩)
                · have HB8 := Lib.hid (after HB7.out hb)
                  have HQ8 := Lib.hid (HQ7.out.next hb)
                  simp only [flV]
                  obtain ⟨Q2, hQ2⟩ : ∃ x, x = u8.heap.size := ⟨_, rfl⟩
                  obtain ⟨W9, hW9⟩ : ∃ x, x = u8.alloc (.cells #[.int .i64 fc, .int .i64 fo, .int .i64 fs] 42) := ⟨_, rfl⟩
                  have hb9 : Below u8.heap.size u8 W9 := by rw [hW9]; exact lit_below u8 _
                  have HB9 := Lib.hid (after HB8.out hb9)
                  have HQ9 : Hid (RB W9 Q1 #[.int .i64 fc, .int .i64 fo, .int .i64 fs] 42) := Lib.hid (HQ8.out.next hb9)
                  have HS9 : Hid (RB W9 Q2 #[.int .i64 fc, .int .i64 fo, .int .i64 fs] 42) := Lib.hid (by rw [hW9, hQ2]; exact rb_new u8 _ _)
                  have HWE9 : Hid (u8.alloc (.cells #[.int .i64 fc, .int .i64 fo, .int .i64 fs] 42) = W9) := Lib.hid hW9.symm
                  have HQE9 := Lib.hid hQ2
                  have q0 : W9.cell? ⟨Q1, 0, none⟩ = some (.int .i64 fc) := HQ9.out.cell
                  rw [hW9] at q0
                  have t1 : (fc != 0) = true := by simp [HFc.out]
                  clear hW9 hb9 hQ2 hf hb
                  go_wp2_with fail
                  clear q0
                  rw [HWE9.out, ← HQE9.out]
                  refine (HRz.out _ HB9.out).mono ?_
                  rintro e u10 ⟨rfl, hb⟩
                  have HB10 := Lib.hid (after HB9.out hb)
                  have hQ := HQ9.out.next hb
                  have hS := HS9.out.next hb
                  have a0 : u10.cell? ⟨Q1, 0, none⟩ = some (.int .i64 fc) := hQ.cell
                  have a1 : u10.cell? ⟨Q1, 1, none⟩ = some (.int .i64 fo) := hQ.cell
                  have a2 : u10.cell? ⟨Q1, 2, none⟩ = some (.int .i64 fs) := hQ.cell
                  have b0 : u10.cell? ⟨Q2, 0, none⟩ = some (.int .i64 fc) := hS.cell
                  have b1 : u10.cell? ⟨Q2, 1, none⟩ = some (.int .i64 fo) := hS.cell
                  have b2 : u10.cell? ⟨Q2, 2, none⟩ = some (.int .i64 fs) := hS.cell
                  have hfe := eql_fl ⟨fc, fo, fs⟩ ⟨fc, fo, fs⟩
                  rw [sameFl_iff.2 rfl] at hfe
                  simp only [flW] at hfe
                  clear hb hQ hS t1
                  go_wp2
                  go_ret
                  exact ⟨rfl, HB10.out⟩
                · exact absurd hf HFn.out
              · have HPr := Lib.hid hpr
                have HRs1 := Lib.hid hrs
                have HC0 := Lib.hid (fault_ok hf)
                have HFz := Lib.hid hf
                simp only [flV, flZ]
                clear hf hpr hrs
                obtain ⟨Q1, hQ1⟩ : ∃ x, x = u6.heap.size := ⟨_, rfl⟩
                obtain ⟨W7, hW7⟩ : ∃ x, x = u6.alloc (.cells #[.int .i64 0, .int .i64 0, .int .i64 0] 42) := ⟨_, rfl⟩
                have hb7 : Below u6.heap.size u6 W7 := by rw [hW7]; exact lit_below u6 _
                have HB7 := Lib.hid (after HB6.out hb7)
                have HQ7 : Hid (RB W7 Q1 #[.int .i64 0, .int .i64 0, .int .i64 0] 42) := Lib.hid (by rw [hW7, hQ1]; exact rb_new u6 _ _)
                have HRes2 := Lib.hid (resolve_any a' (n + 1) c' _ W7 (HOm.out.next hb7) (HT.out.next HB7.out))
                have HPr7 := Lib.hid (HPr.out.next hb7)
                have HRO7 := Lib.hid (HRO6.out.next hb7)
                have HWE : Hid (u6.alloc (.cells #[.int .i64 0, .int .i64 0, .int .i64 0] 42) = W7) := Lib.hid hW7.symm
                have HQE := Lib.hid hQ1
                clear hW7 hb7 hQ1 HOm HPr HRO6
                go_wp2_with fail
                rw [HWE.out, ← HQE.out]
                refine HRes2.out.mono ?_
                intro e u8 hr8
                unfold ResP at hr8
                rw [HFm.out, HRm.out] at hr8
                rcases hr8 with (⟨hf, -, -⟩ | ⟨hf, Z2, rs2, rfl, hpr, hrs, hb⟩)
                · exact absurd HFz.out hf
                · have HB8 := Lib.hid (after HB7.out hb)
                  have hQ8 := HQ7.out.next hb
                  have hPr8 := HPr7.out.next hb
                  have hRO8 := HRO7.out.next hb
                  simp only [flV, flZ]
                  obtain ⟨Q2, hQ2⟩ : ∃ x, x = u8.heap.size := ⟨_, rfl⟩
                  obtain ⟨W9, hW9⟩ : ∃ x, x = u8.alloc (.cells #[.int .i64 0, .int .i64 0, .int .i64 0] 42) := ⟨_, rfl⟩
                  have hb9 : Below u8.heap.size u8 W9 := by rw [hW9]; exact lit_below u8 _
                  have HB9 := Lib.hid (after HB8.out hb9)
                  have HQ9 : Hid (RB W9 Q1 #[.int .i64 0, .int .i64 0, .int .i64 0] 42) := Lib.hid (hQ8.next hb9)
                  have HS9 : Hid (RB W9 Q2 #[.int .i64 0, .int .i64 0, .int .i64 0] 42) := Lib.hid (by rw [hW9, hQ2]; exact rb_new u8 _ _)
                  have HPa := Lib.hid (hPr8.next hb9)
                  have HPb := Lib.hid (hpr.next hb9)
                  have HRO9 := Lib.hid (hRO8.next hb9)
                  have HWE9 : Hid (u8.alloc (.cells #[.int .i64 0, .int .i64 0, .int .i64 0] 42) = W9) := Lib.hid hW9.symm
                  have HQE9 := Lib.hid hQ2
                  have q0 : W9.cell? ⟨Q1, 0, none⟩ = some (.int .i64 0) := HQ9.out.cell
                  rw [hW9] at q0
                  have hl1 : rs1.length = n := HPa.out.sl.len.symm
                  have hl2 : rs2.length = n + 1 := HPb.out.sl.len.symm
                  have HR2 := Lib.hid hrs
                  have hrl : (rowsL (Os.map obOf)).length = n := by rw [← HRs1.out, List.length_map, hl1]
                  have hlast : ∃ ra rc rl, rs2[n]? = some ⟨ra, rc, rl⟩ ∧ rl.length = m := by
                    have h1 : n < rs2.length := by omega
                    have h2 : (rs2.map (·.l))[n]? = some (ol.map (placeA (plcL (flatO (Os.map obOf))) (Os.map obOf).length)) := by
                      rw [hrs, List.getElem?_append_right (by omega), hrl, Nat.sub_self]; rfl
                    rw [List.getElem?_map, List.getElem?_eq_getElem h1] at h2
                    refine ⟨rs2[n].ad, rs2[n].cap, rs2[n].l, by rw [List.getElem?_eq_getElem h1], ?_⟩
                    have h3 : rs2[n].l = _ := Option.some.inj h2
                    rw [h3, List.length_map, HM.out]
                  obtain ⟨ra, rc, rl, hlr, hlm⟩ := hlast
                  have HSame : Hid ((rs2.take n).map (·.l) = rs1.map (·.l)) := Lib.hid (by rw [List.map_take, hrs, List.take_left' hrl, HRs1.out])
                  have HLa := Lib.hid (rows_lens2 HC0.out HRs1.out)
                  have HLb : Hid (∀ r ∈ rs2.take n, r.l.length ≤ 1000000) := Lib.hid (fun r hr => by
                    have h1 : r.l ∈ rs1.map (·.l) := by rw [← HSame.out]; exact List.mem_map.2 ⟨r, hr, rfl⟩
                    obtain ⟨r', hr', e⟩ := List.mem_map.1 h1
                    rw [← e]; exact HLa.out r' hr')
                  obtain ⟨bz, oz, haz, hBz, hcz⟩ := HPb.out.sl.cells (by intro e; rw [e] at hl2; simp at hl2)
                  cases haz
                  have zc := hcz n (by omega) 0 (by omega)
                  have hre : rs2[n] = ⟨ra, rc, rl⟩ := by
                    have := List.getElem?_eq_getElem (l := rs2) (i := n) (by omega)
                    rw [hlr] at this
                    exact (Option.some.inj this).symm
                  rw [hre] at zc
                  simp only [rwC, Nat.zero_add, Nat.mul_one, Nat.add_zero, List.getElem?_cons_zero] at zc
                  rw [hlm] at zc
                  have HZc : Hid (∀ u, Below W9.heap.size W9 u → u.cell? ⟨Z2, n, none⟩ = some (.slice ra m rc)) := Lib.hid (fun u hu => (hu.cell (p := ⟨Z2, n, none⟩) (cell_lt zc)).trans zc)
                  have hn8 := HN8.out
                  have hni8 : (n : Int) ≤ 8 := by omega
                  have hnn : (n : Int) < (n : Int) + 1 := by omega
                  clear hW9 hb9 hQ2 hf hb hQ8 hPr8 hRO8 hpr hrs hl1 hl2 hrl hlr hlm hcz hBz hre zc HRes HRes2
                  go_wp2
                  clear q0
                  rw [HWE9.out, ← HQE9.out]
                  have HSk : Hid (∀ u, Below W9.heap.size W9 u → (Below W9.heap.size W9 u ∧ u.cell? ⟨Q1, 0, none⟩ = some (.int .i64 0) ∧ u.cell? ⟨Q1, 1, none⟩ = some (.int .i64 0) ∧ u.cell? ⟨Q1, 2, none⟩ = some (.int .i64 0) ∧ u.cell? ⟨Q2, 0, none⟩ = some (.int .i64 0) ∧ u.cell? ⟨Q2, 1, none⟩ = some (.int .i64 0) ∧ u.cell? ⟨Q2, 2, none⟩ = some (.int .i64 0) ∧ u.cell? ⟨H, 1, none⟩ = some (.slice oa2 m oc2) ∧ u.cell? ⟨Z2, n, none⟩ = some (.slice ra m rc))) := Lib.hid (fun u hu => ⟨hu, (HQ9.out.next hu).cell, (HQ9.out.next hu).cell, (HQ9.out.next hu).cell, (HS9.out.next hu).cell, (HS9.out.next hu).cell, (HS9.out.next hu).cell, (HRO9.out.next hu).cell, HZc.out u hu⟩)
                  have hbd : Below W9.heap.size W9 W9.drew := ⟨rfl, rfl, rfl, Nat.le_refl _, fun _ _ => rfl⟩
                  have hbD := Lib.hid hbd
                  clear hbd
                  have hfe := eql_fl ⟨0, 0, 0⟩ ⟨0, 0, 0⟩
                  rw [sameFl_iff.2 rfl] at hfe
                  simp only [flW] at hfe
                  have hee : ((n : Int) + 1 == (n : Int) + 1) = true := by simp
                  have hwr : IntKind.i64.wrap ((n : Int) + 1) = (n : Int) + 1 := by rw [IntKind.wrap_i64]; omega
                  have hle1 : (n : Int) ≤ (n : Int) + 1 := by omega
                  have hem : ((m : Int) == (m : Int)) = true := by simp
                  refine wp_region_held_drew (S := fun w' => Below W9.heap.size W9 w' ∧ w'.cell? ⟨Q1, 0, none⟩ = some (.int .i64 0) ∧ w'.cell? ⟨Q1, 1, none⟩ = some (.int .i64 0) ∧ w'.cell? ⟨Q1, 2, none⟩ = some (.int .i64 0) ∧ w'.cell? ⟨Q2, 0, none⟩ = some (.int .i64 0) ∧ w'.cell? ⟨Q2, 1, none⟩ = some (.int .i64 0) ∧ w'.cell? ⟨Q2, 2, none⟩ = some (.int .i64 0) ∧ w'.cell? ⟨H, 1, none⟩ = some (.slice oa2 m oc2) ∧ w'.cell? ⟨Z2, n, none⟩ = some (.slice ra m rc)) (by kernel_rfl) (HSk.out _ hbD.out) (fun hHeld => ?_)
                  refine wpAnyH_ready (rs := [0]) (by kernel_rfl) (by simp) ?_
                  refine AllReadyH.cons rfl (fun K hK => ?_) ?_
                  · go_simp; go_wp2_with (go_at_call 32; refine (HRz.out _ (after HB9.out hbD.out)).mono ?_; rintro e u10 ⟨rfl, hu10⟩); have hU10 := Lib.hid (hbD.out.trans hu10)
                    refine hK.out _ _ (HSk.out _ hU10.out) (fun hHeld => ?_)
                    clear hK K
                    refine wpAnyH_take (i := 1) (v := ?_) rfl (by kernel_rfl) (by kernel_rfl) (by kernel_rfl) (fun _ _ _ h => h) (Or.inl ⟨by kernel_rfl, ?_⟩) (by assumption) ?_
                    rotate_left 1
                    · intro w hSw; (try dsimp only at hSw); obtain ⟨y, y1, y2, y3, y4, y5, y6, y7, y8⟩ := hSw; go_simp; (try with_reducible rfl)
                    (try simp only [Act.put, List.setIfInBounds_toArray, List.set_cons_zero, List.set_cons_succ])
                    refine wpAnyH_take (i := 2) (v := ?_) rfl (by kernel_rfl) (by kernel_rfl) (by kernel_rfl) (fun _ _ _ h => h) (Or.inl ⟨by kernel_rfl, ?_⟩) (by assumption) ?_
                    rotate_left 1
                    · intro w hSw; (try dsimp only at hSw); obtain ⟨y, y1, y2, y3, y4, y5, y6, y7, y8⟩ := hSw; go_simp; (try with_reducible rfl)
                    (try simp only [Act.put, List.setIfInBounds_toArray, List.set_cons_zero, List.set_cons_succ])
                    refine wpAnyH_take (i := 3) (v := ?_) rfl (by kernel_rfl) (by kernel_rfl) (by kernel_rfl) (fun _ _ _ h => h) (Or.inl ⟨by kernel_rfl, ?_⟩) (by assumption) ?_
                    rotate_left 1
                    · intro w hSw; (try dsimp only at hSw); obtain ⟨y, y1, y2, y3, y4, y5, y6, y7, y8⟩ := hSw; go_simp; (try with_reducible rfl)
                    (try simp only [Act.put, List.setIfInBounds_toArray, List.set_cons_zero, List.set_cons_succ])
                    refine wpAnyH_take (i := 4) (v := ?_) rfl (by kernel_rfl) (by kernel_rfl) (by kernel_rfl) (fun _ _ _ h => h) (Or.inl ⟨by kernel_rfl, ?_⟩) (by assumption) ?_
                    rotate_left 1
                    · intro w hSw; (try dsimp only at hSw); obtain ⟨y, y1, y2, y3, y4, y5, y6, y7, y8⟩ := hSw; go_simp; (try with_reducible rfl)
                    (try simp only [Act.put, List.setIfInBounds_toArray, List.set_cons_zero, List.set_cons_succ])
                    refine wpAnyH_ready (rs := [5]) (by kernel_rfl) (by simp) ?_
                    refine AllReadyH.cons rfl (fun K hK => ?_) ?_
                    · go_simp
                      refine hK.out _ _ (by assumption) (fun hHeld => ?_)
                      clear hK K
                      refine wpAnyH_take (i := 6) (v := ?_) rfl (by kernel_rfl) (by kernel_rfl) (by kernel_rfl) (fun _ _ _ h => h) (Or.inl ⟨by kernel_rfl, ?_⟩) (by assumption) ?_
                      rotate_left 1
                      · intro w hSw; (try dsimp only at hSw); obtain ⟨y, y1, y2, y3, y4, y5, y6, y7, y8⟩ := hSw; go_simp; (try with_reducible rfl)
                      (try simp only [Act.put, List.setIfInBounds_toArray, List.set_cons_zero, List.set_cons_succ])
                      refine wpAnyH_take (i := 7) (v := ?_) rfl (by kernel_rfl) (by kernel_rfl) (by kernel_rfl) (fun _ _ _ h => h) (Or.inl ⟨by kernel_rfl, ?_⟩) (by assumption) ?_
                      rotate_left 1
                      · intro w hSw; (try dsimp only at hSw); obtain ⟨y, y1, y2, y3, y4, y5, y6, y7, y8⟩ := hSw; go_simp; (try with_reducible rfl)
                      (try simp only [Act.put, List.setIfInBounds_toArray, List.set_cons_zero, List.set_cons_succ])
                      refine wpAnyH_take (i := 8) (v := ?_) rfl (by kernel_rfl) (by kernel_rfl) (by kernel_rfl) (fun _ _ _ h => h) (Or.inl ⟨by kernel_rfl, ?_⟩) (by assumption) ?_
                      rotate_left 1
                      · intro w hSw; (try dsimp only at hSw); obtain ⟨y, y1, y2, y3, y4, y5, y6, y7, y8⟩ := hSw; go_simp; (try with_reducible rfl)
                      (try simp only [Act.put, List.setIfInBounds_toArray, List.set_cons_zero, List.set_cons_succ])
                      refine wpAnyH_take (i := 9) (v := ?_) rfl (by kernel_rfl) (by kernel_rfl) (by kernel_rfl) (fun _ _ _ h => h) (Or.inl ⟨by kernel_rfl, ?_⟩) (by assumption) ?_
                      rotate_left 1
                      · intro w hSw; (try dsimp only at hSw); obtain ⟨y, y1, y2, y3, y4, y5, y6, y7, y8⟩ := hSw; go_simp; (try with_reducible rfl)
                      (try simp only [Act.put, List.setIfInBounds_toArray, List.set_cons_zero, List.set_cons_succ])
                      refine wpAnyH_take (i := 10) (v := ?_) rfl (by kernel_rfl) (by kernel_rfl) (by kernel_rfl) (fun _ _ _ h => h) (Or.inl ⟨by kernel_rfl, ?_⟩) (by assumption) ?_
                      rotate_left 1
                      · intro w hSw; (try dsimp only at hSw); obtain ⟨y, y1, y2, y3, y4, y5, y6, y7, y8⟩ := hSw; go_simp; (try with_reducible rfl)
                      (try simp only [Act.put, List.setIfInBounds_toArray, List.set_cons_zero, List.set_cons_succ])
                      refine wpAnyH_take (i := 11) (v := ?_) rfl (by kernel_rfl) (by kernel_rfl) (by kernel_rfl) (fun _ _ _ h => h) (Or.inl ⟨by kernel_rfl, ?_⟩) (by assumption) ?_
                      rotate_left 1
                      · intro w hSw; (try dsimp only at hSw); obtain ⟨y, y1, y2, y3, y4, y5, y6, y7, y8⟩ := hSw; go_simp; (try with_reducible rfl)
                      (try simp only [Act.put, List.setIfInBounds_toArray, List.set_cons_zero, List.set_cons_succ])
                      refine wpAnyH_take (i := 12) (v := ?_) rfl (by kernel_rfl) (by kernel_rfl) (by kernel_rfl) (fun _ _ _ h => h) (Or.inl ⟨by kernel_rfl, ?_⟩) (by assumption) ?_
                      rotate_left 1
                      · intro w hSw; (try dsimp only at hSw); obtain ⟨y, y1, y2, y3, y4, y5, y6, y7, y8⟩ := hSw; go_simp; (try with_reducible rfl)
                      (try simp only [Act.put, List.setIfInBounds_toArray, List.set_cons_zero, List.set_cons_succ])
                      refine wpAnyH_ready (rs := [13]) (by kernel_rfl) (by simp) ?_
                      refine AllReadyH.cons rfl (fun K hK => ?_) ?_
                      · go_simp
                        refine hK.out _ _ (by assumption) (fun hHeld => ?_)
                        clear hK K
                        refine wpAnyH_take (i := 14) (v := ?_) rfl (by kernel_rfl) (by kernel_rfl) (by kernel_rfl) (fun _ _ _ h => h) (Or.inl ⟨by kernel_rfl, ?_⟩) (by assumption) ?_
                        rotate_left 1
                        · intro w hSw; (try dsimp only at hSw); obtain ⟨y, y1, y2, y3, y4, y5, y6, y7, y8⟩ := hSw; go_simp; (try with_reducible rfl)
                        (try simp only [Act.put, List.setIfInBounds_toArray, List.set_cons_zero, List.set_cons_succ])
                        refine wpAnyH_take (i := 15) (v := ?_) rfl (by kernel_rfl) (by kernel_rfl) (by kernel_rfl) (fun _ _ _ h => h) (Or.inl ⟨by kernel_rfl, ?_⟩) (by assumption) ?_
                        rotate_left 1
                        · intro w hSw; (try dsimp only at hSw); obtain ⟨y, y1, y2, y3, y4, y5, y6, y7, y8⟩ := hSw; go_simp; (try with_reducible rfl)
                        (try simp only [Act.put, List.setIfInBounds_toArray, List.set_cons_zero, List.set_cons_succ])
                        refine wpAnyH_take (i := 16) (v := ?_) rfl (by kernel_rfl) (by kernel_rfl) (by kernel_rfl) (fun _ _ _ h => h) (Or.inl ⟨by kernel_rfl, ?_⟩) (by assumption) ?_
                        rotate_left 1
                        · intro w hSw; (try dsimp only at hSw); obtain ⟨y, y1, y2, y3, y4, y5, y6, y7, y8⟩ := hSw; go_simp; (try with_reducible rfl)
                        (try simp only [Act.put, List.setIfInBounds_toArray, List.set_cons_zero, List.set_cons_succ])
                        refine wpAnyH_take (i := 17) (v := ?_) rfl (by kernel_rfl) (by kernel_rfl) (by kernel_rfl) (fun _ _ _ h => h) (Or.inl ⟨by kernel_rfl, ?_⟩) (by assumption) ?_
                        rotate_left 1
                        · intro w hSw; (try dsimp only at hSw); obtain ⟨y, y1, y2, y3, y4, y5, y6, y7, y8⟩ := hSw; go_simp; (try with_reducible rfl)
                        (try simp only [Act.put, List.setIfInBounds_toArray, List.set_cons_zero, List.set_cons_succ])
                        refine wpAnyH_take (i := 18) (v := ?_) rfl (by kernel_rfl) (by kernel_rfl) (by kernel_rfl) (fun _ _ _ h => h) (Or.inl ⟨by kernel_rfl, ?_⟩) (by assumption) ?_
                        rotate_left 1
                        · intro w hSw; (try dsimp only at hSw); obtain ⟨y, y1, y2, y3, y4, y5, y6, y7, y8⟩ := hSw; go_simp; (try with_reducible rfl)
                        (try simp only [Act.put, List.setIfInBounds_toArray, List.set_cons_zero, List.set_cons_succ])
                        refine wpAnyH_take (i := 19) (v := ?_) rfl (by kernel_rfl) (by kernel_rfl) (by kernel_rfl) (fun _ _ _ h => h) (Or.inl ⟨by kernel_rfl, ?_⟩) (by assumption) ?_
                        rotate_left 1
                        · intro w hSw; (try dsimp only at hSw); obtain ⟨y, y1, y2, y3, y4, y5, y6, y7, y8⟩ := hSw; go_simp; (try with_reducible rfl)
                        (try simp only [Act.put, List.setIfInBounds_toArray, List.set_cons_zero, List.set_cons_succ])
                        refine wpAnyH_take (i := 20) (v := ?_) rfl (by kernel_rfl) (by kernel_rfl) (by kernel_rfl) (fun _ _ _ h => h) (Or.inl ⟨by kernel_rfl, ?_⟩) (by assumption) ?_
                        rotate_left 1
                        · intro w hSw; (try dsimp only at hSw); obtain ⟨y, y1, y2, y3, y4, y5, y6, y7, y8⟩ := hSw; go_simp; (try with_reducible rfl)
                        (try simp only [Act.put, List.setIfInBounds_toArray, List.set_cons_zero, List.set_cons_succ])
                        refine wpAnyH_take (i := 21) (v := ?_) rfl (by kernel_rfl) (by kernel_rfl) (by kernel_rfl) (fun _ _ _ h => h) (Or.inl ⟨by kernel_rfl, ?_⟩) (by assumption) ?_
                        rotate_left 1
                        · intro w hSw; (try dsimp only at hSw); obtain ⟨y, y1, y2, y3, y4, y5, y6, y7, y8⟩ := hSw; go_simp; (try with_reducible rfl)
                        (try simp only [Act.put, List.setIfInBounds_toArray, List.set_cons_zero, List.set_cons_succ])
                        refine wpAnyH_take (i := 22) (v := ?_) rfl (by kernel_rfl) (by kernel_rfl) (by kernel_rfl) (fun _ _ _ h => h) (Or.inl ⟨by kernel_rfl, ?_⟩) (by assumption) ?_
                        rotate_left 1
                        · intro w hSw; (try dsimp only at hSw); obtain ⟨y, y1, y2, y3, y4, y5, y6, y7, y8⟩ := hSw; go_simp; (try with_reducible rfl)
                        (try simp only [Act.put, List.setIfInBounds_toArray, List.set_cons_zero, List.set_cons_succ])
                        refine wpAnyH_take (i := 23) (v := ?_) rfl (by kernel_rfl) (by kernel_rfl) (by kernel_rfl) (fun _ _ _ h => h) (Or.inl ⟨by kernel_rfl, ?_⟩) (by assumption) ?_
                        rotate_left 1
                        · intro w hSw; (try dsimp only at hSw); obtain ⟨y, y1, y2, y3, y4, y5, y6, y7, y8⟩ := hSw; go_simp; (try with_reducible rfl)
                        (try simp only [Act.put, List.setIfInBounds_toArray, List.set_cons_zero, List.set_cons_succ])
                        refine wpAnyH_take (i := 24) (v := ?_) rfl (by kernel_rfl) (by kernel_rfl) (by kernel_rfl) (fun _ _ _ h => h) (Or.inl ⟨by kernel_rfl, ?_⟩) (by assumption) ?_
                        rotate_left 1
                        · intro w hSw; (try dsimp only at hSw); obtain ⟨y, y1, y2, y3, y4, y5, y6, y7, y8⟩ := hSw; go_simp; (try with_reducible rfl)
                        (try simp only [Act.put, List.setIfInBounds_toArray, List.set_cons_zero, List.set_cons_succ])
                        refine wpAnyH_ready (rs := [25]) (by kernel_rfl) (by simp) ?_
                        refine AllReadyH.cons rfl (fun K hK => ?_) ?_
                        · go_simp
                          refine hK.out _ _ (by assumption) (fun hHeld => ?_)
                          clear hK K
                          refine wpAnyH_take (i := 26) (v := ?_) rfl (by kernel_rfl) (by kernel_rfl) (by kernel_rfl) (fun _ _ _ h => h) (Or.inl ⟨by kernel_rfl, ?_⟩) (by assumption) ?_
                          rotate_left 1
                          · intro w hSw; (try dsimp only at hSw); obtain ⟨y, y1, y2, y3, y4, y5, y6, y7, y8⟩ := hSw; go_simp; (try with_reducible rfl)
                          (try simp only [Act.put, List.setIfInBounds_toArray, List.set_cons_zero, List.set_cons_succ])
                          refine wpAnyH_take (i := 27) (v := ?_) rfl (by kernel_rfl) (by kernel_rfl) (by kernel_rfl) (fun _ _ _ h => h) (Or.inl ⟨by kernel_rfl, ?_⟩) (by assumption) ?_
                          rotate_left 1
                          · intro w hSw; (try dsimp only at hSw); obtain ⟨y, y1, y2, y3, y4, y5, y6, y7, y8⟩ := hSw; go_simp; (try with_reducible rfl)
                          (try simp only [Act.put, List.setIfInBounds_toArray, List.set_cons_zero, List.set_cons_succ])
                          refine wpAnyH_take (i := 28) (v := ?_) rfl (by kernel_rfl) (by kernel_rfl) (by kernel_rfl) (fun _ _ _ h => h) (Or.inl ⟨by kernel_rfl, ?_⟩) (by assumption) ?_
                          rotate_left 1
                          · intro w hSw; (try dsimp only at hSw); obtain ⟨y, y1, y2, y3, y4, y5, y6, y7, y8⟩ := hSw; go_simp; (try with_reducible rfl)
                          (try simp only [Act.put, List.setIfInBounds_toArray, List.set_cons_zero, List.set_cons_succ])
                          refine wpAnyH_take (i := 29) (v := ?_) rfl (by kernel_rfl) (by kernel_rfl) (by kernel_rfl) (fun _ _ _ h => h) (Or.inl ⟨by kernel_rfl, ?_⟩) (by assumption) ?_
                          rotate_left 1
                          · intro w hSw; (try dsimp only at hSw); obtain ⟨y, y1, y2, y3, y4, y5, y6, y7, y8⟩ := hSw; go_simp; (try with_reducible rfl)
                          (try simp only [Act.put, List.setIfInBounds_toArray, List.set_cons_zero, List.set_cons_succ])
                          refine wpAnyH_take (i := 30) (v := ?_) rfl (by kernel_rfl) (by kernel_rfl) (by kernel_rfl) (fun _ _ _ h => h) (Or.inl ⟨by kernel_rfl, ?_⟩) (by assumption) ?_
                          rotate_left 1
                          · intro w hSw; (try dsimp only at hSw); obtain ⟨y, y1, y2, y3, y4, y5, y6, y7, y8⟩ := hSw; go_simp; (try with_reducible rfl)
                          (try simp only [Act.put, List.setIfInBounds_toArray, List.set_cons_zero, List.set_cons_succ])
                          refine wpAnyH_take (i := 31) (v := ?_) rfl (by kernel_rfl) (by kernel_rfl) (by kernel_rfl) (fun _ _ _ h => h) (Or.inl ⟨by kernel_rfl, ?_⟩) (by assumption) ?_
                          rotate_left 1
                          · intro w hSw; (try dsimp only at hSw); obtain ⟨y, y1, y2, y3, y4, y5, y6, y7, y8⟩ := hSw; go_simp; (try with_reducible rfl)
                          (try simp only [Act.put, List.setIfInBounds_toArray, List.set_cons_zero, List.set_cons_succ])
                          refine wpAnyH_ready (rs := [32]) (by kernel_rfl) (by simp) ?_
                          refine AllReadyH.cons rfl (fun K hK => ?_) ?_
                          · go_simp; go_wp2_with (go_at_call 33; refine (same20_any _ _ n n _ _ rs1 (rs2.take n) u10 (by have := HN8.out; omega) (by have := HN8.out; omega) HLa.out HLb.out (HPa.out.next hU10.out) ((HPb.out.next hU10.out).take)).mono ?_; rintro e u11 ⟨r, rfl, hr, hu11⟩); obtain rfl : r = true := hr.2 HSame.out.symm; have hU11 := Lib.hid (hU10.out.trans (hu11.mono hU10.out.size))
                            refine hK.out _ _ (HSk.out _ hU11.out) (fun hHeld => ?_)
                            clear hK K
                            refine wpAnyH_ready (rs := [33]) (by kernel_rfl) (by simp) ?_
                            refine AllReadyH.cons rfl (fun K hK => ?_) ?_
                            · go_simp
                              refine hK.out _ _ (by assumption) (fun hHeld => ?_)
                              clear hK K
                              refine wpAnyH_ready (rs := [34]) (by kernel_rfl) (by simp) ?_
                              refine AllReadyH.cons rfl (fun K hK => ?_) ?_
                              · go_simp
                                refine hK.out _ _ (by assumption) (fun hHeld => ?_)
                                clear hK K
                                refine wpAnyH_done (by kernel_rfl) ?_ _
                                go_wp2
                                go_ret
                                exact ⟨rfl, after HB9.out (hbD.out.trans (hu10.trans (hu11.mono hu10.size)))⟩
                              exact AllReadyH.nil
                            exact AllReadyH.nil
                          exact AllReadyH.nil
                        exact AllReadyH.nil
                      exact AllReadyH.nil
                    exact AllReadyH.nil
                  exact AllReadyH.nil
    · go_wp2_with fail
      refine (HRz.out _ HB.out).mono ?_
      rintro e u3 ⟨rfl, hb⟩
      have HB3 := Lib.hid (after HB.out hb)
      clear hb
      go_wp2
      go_ret
      exact ⟨rfl, HB3.out⟩
  · go_wp2_with fail
    refine (HRz.out _ HB.out).mono ?_
    rintro e u3 ⟨rfl, hb⟩
    have HB3 := Lib.hid (after HB.out hb)
    clear hb
    go_wp2
    go_ret
    exact ⟨rfl, HB3.out⟩
end Go.Proofs.YtdgfadabaejkhaaGreatDoor
