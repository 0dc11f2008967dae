/- sym's law: SymAlone. -/
import Derived.Test.YtdgfadabaejkhaaGreatDoorkVC
namespace Go.Proofs.YtdgfadabaejkhaaGreatDoor
set_option linter.unusedVariables false
set_option linter.unusedSimpArgs false
open Go.ChangeShapes Go.WideShapes Go.Deep Go.RowKit

def negS (y : Sy) : Bool := decide (y.sec < 0)
theorem oxg_is {w : World} {o : Ox} (hG : OxG w o) (hT : TabP w) {u : World} (hu : Below w.heap.size w u) : Calls Tryz.prog 24 #[.agg #[.slice o.a o.L.length o.c, .slice o.a2 o.l.length o.c2]] u (RetB (.bool (isO (obOf o))) u) := by
  have h := hG.next hu
  exact oIs_any o.a _ o.c o.L o.a2 _ o.c2 o.l h.l1 h.l2 u h.s1 h.no h.gd h.s2 h.gs (hT.next hu)
theorem any_take {l : List Sy} {k : Nat} (hk : k < l.length) : (l.take (k + 1)).any negS = ((l.take k).any negS || negS l[k]) := by
  rw [List.take_succ_eq_append_getElem hk, List.any_append]
  simp
set_option maxRecDepth 100000 in
set_option maxHeartbeats 2000000 in
theorem SymAlone_walk (w : World) (o : Ox) (hG : OxG w o) (hT : TabP w) : Calls Tryz.prog 8 #[.agg #[.slice o.a o.L.length o.c, .slice o.a2 o.l.length o.c2]] w (RetB (.bool true) w) := by
  have HRs := Lib.hid (fun u (hu : Below w.heap.size w u) => resolved_is u (hT.next hu))
  have HIs := Lib.hid (fun u (hu : Below w.heap.size w u) => oxg_is hG hT hu)
  have HT := Lib.hid hT
  have HG := Lib.hid hG
  have hmi : (o.l.length : Int) ≤ 9223372036854775807 := by have := hG.l2; unfold maxLen at this; omega
  have HAl := Lib.hid (@alone_all (obOf o))
  have HLo := Lib.hid (@alone_lost (obOf o))
  obtain ⟨H, hH⟩ : ∃ H, H = w.heap.size := ⟨_, rfl⟩
  have HH := Lib.hid hH
  have HS2 := Lib.hid hG.s2
  have HO : Hid (OxG w o) := Lib.hid hG
  obtain ⟨oa, oc, oL, oa2, oc2, ol⟩ := o
  simp only [] at hmi HIs HS2 ⊢
  obtain ⟨on, hon⟩ : ∃ on, on = oL.length := ⟨_, rfl⟩
  obtain ⟨m, hm⟩ : ∃ m, m = ol.length := ⟨_, rfl⟩
  have HON := Lib.hid hon
  have HM := Lib.hid hm
  rw [← hm] at hmi
  obtain ⟨W0, hW0⟩ : ∃ x, x = w.alloc (.cells #[.slice oa on oc, .slice oa2 m oc2] 25) := ⟨_, rfl⟩
  obtain ⟨W1, hW1⟩ : ∃ x, x = W0.alloc (.cells #[.slice oa on oc, .slice oa2 m oc2] 25) := ⟨_, rfl⟩
  have hz0 : W0.heap.size = H + 1 := by rw [hW0, World.size_alloc, hH]
  have hb0 : Below w.heap.size w W0 := by rw [hW0]; exact lit_below w _
  have hb1 : Below W0.heap.size W0 W1 := by rw [hW1]; exact lit_below W0 _
  have hro : RB W0 H #[.slice oa on oc, .slice oa2 m oc2] 25 := by rw [hW0, hH]; exact rb_new w _ _
  have hos : OS W1 W1.heap.size (some ⟨H + 1, 0, none⟩) 1 [⟨oa, oc, oL, oa2, oc2, ol⟩] := by
    have := one_obj W0 _ (hG.next hb0)
    simp only [] at this
    rw [← hon, ← hm, ← hW1, hz0] at this
    exact this
  have HBg := Lib.hid (sBig_any (some ⟨H + 1, 0, none⟩) 1 1 _ W1 hos)
  have HRO : Hid (RB W1 H #[.slice oa on oc, .slice oa2 m oc2] 25) := Lib.hid (hro.next hb1)
  have HB := Lib.hid (after hb0 hb1)
  rw [← hon, ← hm] at HIs
  have HWE : Hid ((w.alloc (.cells #[.slice oa on oc, .slice oa2 m oc2] 25)).alloc (.cells #[.slice oa on oc, .slice oa2 m oc2] 25) = W1) := Lib.hid (by rw [hW1, hW0])
  have g0 : (w.alloc (.cells #[.slice oa on oc, .slice oa2 m oc2] 25)).cell? ⟨w.heap.size, 0, none⟩ = some (.slice oa on oc) := by rw [← hW0, ← hH]; exact hro.cell
  have g1 : (w.alloc (.cells #[.slice oa on oc, .slice oa2 m oc2] 25)).cell? ⟨w.heap.size, 1, none⟩ = some (.slice oa2 m oc2) := by rw [← hW0, ← hH]; exact hro.cell
  clear hG hT hW0 hW1 hz0 hb0 hb1 hro hos
  rw [← hon, ← hm]
  clear hon hm hH
  go_enter Tryz.func8, Tryz.ntmps8
  go_wp2_with fail
  rw [HWE.out, ← HH.out]
  clear g0 g1
  refine HBg.out.mono ?_
  rintro e u ⟨r, rfl, hb⟩
  replace HB := Lib.hid (after HB.out hb)
  replace HRO := Lib.hid (HRO.out.next hb)
  clear hb HWE
  cases r
  · have x0 : u.cell? ⟨H, 0, none⟩ = some (.slice oa on oc) := HRO.out.cell
    have x1 : u.cell? ⟨H, 1, none⟩ = some (.slice oa2 m oc2) := HRO.out.cell
    go_wp2_with fail
    refine (HIs.out _ HB.out).mono ?_
    rintro e u2 ⟨rfl, hb⟩
    replace HB := Lib.hid (after HB.out hb)
    replace HRO := Lib.hid (HRO.out.next hb)
    clear hb x0 x1
    cases hi : isO (obOf ⟨oa, oc, oL, oa2, oc2, ol⟩)
    · clear hi
      go_wp2_with fail
      refine (HRs.out _ HB.out).mono ?_
      rintro e u3 ⟨rfl, hb⟩
      have HB3 := Lib.hid (after HB.out hb)
      clear hb
      go_wp2
      go_ret
      exact ⟨rfl, HB3.out⟩
    · have HIo := Lib.hid hi
      clear hi
      have x0 : u2.cell? ⟨H, 0, none⟩ = some (.slice oa on oc) := HRO.out.cell
      have x1 : u2.cell? ⟨H, 1, none⟩ = some (.slice oa2 m oc2) := HRO.out.cell
      obtain ⟨W3, hW3⟩ : ∃ x, x = u2.alloc (.cells #[.slice oa on oc, .slice oa2 m oc2] 25) := ⟨_, rfl⟩
      obtain ⟨P, hP⟩ : ∃ x, x = u2.heap.size := ⟨_, rfl⟩
      have hb3 : Below u2.heap.size u2 W3 := by rw [hW3]; exact lit_below u2 _
      have hos : OS W3 W3.heap.size (some ⟨P, 0, none⟩) 1 [⟨oa, oc, oL, oa2, oc2, ol⟩] := by
        have := one_obj u2 _ (HO.out.next HB.out)
        simp only [] at this
        rw [← HON.out, ← HM.out, ← hW3, ← hP] at this
        exact this
      have HB3 := Lib.hid (after HB.out hb3)
      have HR3 : Hid (RB W3 H #[.slice oa on oc, .slice oa2 m oc2] 25) := Lib.hid (HRO.out.next hb3)
      have HRes := Lib.hid (resolve_any (some ⟨P, 0, none⟩) 1 1 _ W3 hos (HT.out.next HB3.out))
      have HWE : Hid (u2.alloc (.cells #[.slice oa on oc, .slice oa2 m oc2] 25) = W3) := Lib.hid hW3.symm
      have HPE := Lib.hid hP
      clear hW3 hb3 hos hP
      go_wp2_with fail
      clear x0 x1
      rw [HWE.out, ← HPE.out]
      refine HRes.out.mono ?_
      rintro e u4 (⟨hf, rfl, hb⟩ | ⟨hf, Z, rs, rfl, hpr, hrs, hb⟩)
      · have HB4 := Lib.hid (after HB3.out hb)
        have HR4 : Hid (RB u4 H #[.slice oa on oc, .slice oa2 m oc2] 25) := Lib.hid (HR3.out.next hb)
        have HLost : Hid (ol.any negS = true) := Lib.hid (by
          cases ha : ol.any negS
          · exfalso
            apply hf
            refine (HAl.out HIo.out (fun y hy => ?_)).1
            have := List.any_eq_false.1 ha y hy
            simp only [negS, decide_eq_true_eq] at this
            omega
          · rfl)
        have HFc : Hid ((faultL [obOf ⟨oa, oc, oL, oa2, oc2, ol⟩]).code = 6 ∧ (faultL [obOf ⟨oa, oc, oL, oa2, oc2, ol⟩]).obj = 0) := Lib.hid (by
          obtain ⟨y, hy, hn⟩ := List.any_eq_true.1 HLost.out
          exact HLo.out HIo.out hy (of_decide_eq_true hn))
        simp only [List.map_cons, List.map_nil, flV]
        obtain ⟨f, hff⟩ : ∃ f, f = faultL [obOf ⟨oa, oc, oL, oa2, oc2, ol⟩] := ⟨_, rfl⟩
        rw [← hff] at HFc ⊢
        obtain ⟨fc, fo, fs⟩ := f
        obtain ⟨h6, h0⟩ := HFc.out
        simp only [] at h6 h0 ⊢
        subst h6 h0
        clear hf hb hff HFc
        obtain ⟨Q, hQ⟩ : ∃ x, x = u4.heap.size := ⟨_, rfl⟩
        obtain ⟨W5, hW5⟩ : ∃ x, x = u4.alloc (.cells #[.int .i64 6, .int .i64 0, .int .i64 fs] 42) := ⟨_, rfl⟩
        have hb5 : Below u4.heap.size u4 W5 := by rw [hW5]; exact lit_below u4 _
        have HB5 := Lib.hid (after HB4.out hb5)
        have HR5 : Hid (RB W5 H #[.slice oa on oc, .slice oa2 m oc2] 25) := Lib.hid (HR4.out.next hb5)
        have HQ5 : Hid (RB W5 Q #[.int .i64 6, .int .i64 0, .int .i64 fs] 42) := Lib.hid (by rw [hW5, hQ]; exact rb_new u4 _ _)
        have HQE := Lib.hid hQ
        have HWE5 : Hid (u4.alloc (.cells #[.int .i64 6, .int .i64 0, .int .i64 fs] 42) = W5) := Lib.hid hW5.symm
        clear hW5 hb5 hQ
        go_wp2
        rw [HWE5.out, ← HQE.out]
        go_loopw [5, 6] (fun b i wr => ∃ (k : Nat) (wx : World), wx = wr ∧ k ≤ m ∧ i = .int .i64 k ∧ b = .bool ((ol.take k).any negS) ∧ Hid (Below w.heap.size w wx ∧ RB wx H #[.slice oa on oc, .slice oa2 m oc2] 25 ∧ RB wx Q #[.int .i64 6, .int .i64 0, .int .i64 fs] 42)) (fun _ i _ => m - (intOf i).toNat)
        case atStart => exact ⟨0, _, rfl, by omega, rfl, rfl, Lib.hid ⟨HB5.out, HR5.out, HQ5.out⟩⟩
        case round =>
            clear HB5 HR5 HQ5
            obtain ⟨k, wx, rfl, hk, rfl, rfl, HK⟩ := hrel
            by_cases hlt : k < m
            · have hlti : (k : Int) < (m : Int) := by omega
              have hk1 : k < ol.length := by have := HM.out; omega
              obtain ⟨b2, off2, hae2, hB2, hc2⟩ := (HS2.out.next HK.out.1).cells (by intro e; rw [e] at hk1; simp at hk1)
              subst hae2
              obtain ⟨d0, d1, d2, d3⟩ := sy_cells (fun q hq => hc2 k hk1 q hq)
              obtain ⟨y, hy⟩ : ∃ y, y = ol[k] := ⟨_, rfl⟩
              have HTk : Hid ((ol.take (k + 1)).any negS = ((ol.take k).any negS || negS y)) := Lib.hid (by rw [any_take hk1, hy])
              rw [← hy] at d0 d1 d2 d3
              obtain ⟨yn, yb, ys, yo⟩ := y
              simp only [] at d0 d1 d2 d3
              generalize (⟨yn.toArray⟩ : ByteArray) = N at d0
              have x1 : wx.cell? ⟨H, 1, none⟩ = some (.slice (some ⟨b2, off2, none⟩) m oc2) := HK.out.2.1.cell
              clear hc2 hy hB2
              obtain ⟨lb, hlb⟩ : ∃ lb, lb = (ol.take k).any negS := ⟨_, rfl⟩
              rw [← hlb] at HTk ⊢
              clear hlb
              cases lb
              · by_cases hs : ys < 0
                · have HTe : Hid ((ol.take (k + 1)).any negS = true) := Lib.hid (by rw [HTk.out]; simp [negS, hs])
                  go_wp2
                  go_roundw
                  case rel => exact ⟨k + 1, _, rfl, by omega, by go_num, by rw [HTe.out], HK⟩
                  case measure => simp [intOf]; omega
                · have HTe : Hid ((ol.take (k + 1)).any negS = false) := Lib.hid (by rw [HTk.out]; simp [negS]; omega)
                  go_wp2
                  go_roundw
                  case rel => exact ⟨k + 1, _, rfl, by omega, by go_num, by rw [HTe.out], HK⟩
                  case measure => simp [intOf]; omega
              · have HTe : Hid ((ol.take (k + 1)).any negS = true) := Lib.hid (by rw [HTk.out]; rfl)
                go_wp2
                go_roundw
                case rel => exact ⟨k + 1, _, rfl, by omega, by go_num, by rw [HTe.out], HK⟩
                case measure => simp [intOf]; omega
            · have hlti : ¬ (k : Int) < (m : Int) := by omega
              have hb : (ol.take k).any negS = true := by rw [List.take_of_length_le (by have := HM.out; omega)]; exact HLost.out
              rw [hb]
              clear hb
              have x1 : wx.cell? ⟨H, 1, none⟩ = some (.slice oa2 m oc2) := HK.out.2.1.cell
              go_wp2_with fail
              clear x1
              refine (HRs.out _ HK.out.1).mono ?_
              rintro e u6 ⟨rfl, hb⟩
              have HB6 := Lib.hid (after HK.out.1 hb)
              have HQ6 : Hid (RB u6 Q #[.int .i64 6, .int .i64 0, .int .i64 fs] 42) := Lib.hid (HK.out.2.2.next hb)
              have q0 : u6.cell? ⟨Q, 0, none⟩ = some (.int .i64 6) := HQ6.out.cell
              have q1 : u6.cell? ⟨Q, 1, none⟩ = some (.int .i64 0) := HQ6.out.cell
              clear hb
              go_wp2
              go_ret
              exact ⟨rfl, HB6.out⟩
      · have HB4 := Lib.hid (after HB3.out hb)
        have HR4 : Hid (RB u4 H #[.slice oa on oc, .slice oa2 m oc2] 25) := Lib.hid (HR3.out.next hb)
        have HLost : Hid (ol.any negS = false) := Lib.hid (by
          cases ha : ol.any negS
          · rfl
          · exfalso
            obtain ⟨y, hy, hn⟩ := List.any_eq_true.1 ha
            have := (HLo.out HIo.out hy (of_decide_eq_true hn)).1
            simp only [List.map_cons, List.map_nil] at hf
            rw [hf] at this
            cases this)
        have HRw : Hid (rs.map (·.l) = [ol.map (fun y => ⟨0, y.sec, y.off⟩)]) := Lib.hid (by
          rw [hrs]
          refine (HAl.out HIo.out (fun y hy => ?_)).2
          have := List.any_eq_false.1 HLost.out y hy
          simp only [negS, decide_eq_true_eq] at this
          omega)
        have HP4 := Lib.hid hpr
        simp only [flV, flZ]
        clear hf hb hrs hpr
        obtain ⟨Q, hQ⟩ : ∃ x, x = u4.heap.size := ⟨_, rfl⟩
        obtain ⟨W5, hW5⟩ : ∃ x, x = u4.alloc (.cells #[.int .i64 0, .int .i64 0, .int .i64 0] 42) := ⟨_, rfl⟩
        have hb5 : Below u4.heap.size u4 W5 := by rw [hW5]; exact lit_below u4 _
        have HB5 := Lib.hid (after HB4.out hb5)
        have HR5 : Hid (RB W5 H #[.slice oa on oc, .slice oa2 m oc2] 25) := Lib.hid (HR4.out.next hb5)
        have HQ5 : Hid (RB W5 Q #[.int .i64 0, .int .i64 0, .int .i64 0] 42) := Lib.hid (by rw [hW5, hQ]; exact rb_new u4 _ _)
        have HP5 := Lib.hid (HP4.out.next hb5)
        have HQE := Lib.hid hQ
        have HWE5 : Hid (u4.alloc (.cells #[.int .i64 0, .int .i64 0, .int .i64 0] 42) = W5) := Lib.hid hW5.symm
        -- the one row
        obtain ⟨ra, rc, rl, hre⟩ : ∃ ra rc rl, rs = [⟨ra, rc, rl⟩] := by
          have hl := congrArg List.length HRw.out
          match rs, hl with
          | [x], _ => exact ⟨x.ad, x.cap, x.l, rfl⟩
        subst hre
        have HRl : Hid (rl = ol.map (fun y => ⟨0, y.sec, y.off⟩)) := Lib.hid (by simpa using HRw.out)
        have HRm : Hid (rl.length = m) := Lib.hid (by rw [HRl.out, List.length_map, HM.out])
        clear hW5 hb5 hQ HP4
        go_wp2
        rw [HWE5.out, ← HQE.out]
        go_loopw [5, 6] (fun b i wr => ∃ (k : Nat) (wx : World), wx = wr ∧ k ≤ m ∧ i = .int .i64 k ∧ b = .bool ((ol.take k).any negS) ∧ Hid (Below w.heap.size w wx ∧ RB wx H #[.slice oa on oc, .slice oa2 m oc2] 25 ∧ RB wx Q #[.int .i64 0, .int .i64 0, .int .i64 0] 42 ∧ PRows wx (some ⟨Z, 0, none⟩) 1 [⟨ra, rc, rl⟩])) (fun _ i _ => m - (intOf i).toNat)
        case atStart => exact ⟨0, _, rfl, by omega, rfl, rfl, Lib.hid ⟨HB5.out, HR5.out, HQ5.out, HP5.out⟩⟩
        case round =>
            clear HB5 HR5 HQ5 HP5
            obtain ⟨k, wx, rfl, hk, rfl, rfl, HK⟩ := hrel
            by_cases hlt : k < m
            · have hlti : (k : Int) < (m : Int) := by omega
              have hk1 : k < ol.length := by have := HM.out; omega
              obtain ⟨b2, off2, hae2, hB2, hc2⟩ := (HS2.out.next HK.out.1).cells (by intro e; rw [e] at hk1; simp at hk1)
              subst hae2
              obtain ⟨d0, d1, d2, d3⟩ := sy_cells (fun q hq => hc2 k hk1 q hq)
              obtain ⟨y, hy⟩ : ∃ y, y = ol[k] := ⟨_, rfl⟩
              have HTk : Hid ((ol.take (k + 1)).any negS = ((ol.take k).any negS || negS y)) := Lib.hid (by rw [any_take hk1, hy])
              rw [← hy] at d0 d1 d2 d3
              obtain ⟨yn, yb, ys, yo⟩ := y
              simp only [] at d0 d1 d2 d3
              generalize (⟨yn.toArray⟩ : ByteArray) = N at d0
              have x1 : wx.cell? ⟨H, 1, none⟩ = some (.slice (some ⟨b2, off2, none⟩) m oc2) := HK.out.2.1.cell
              clear hc2 hy hB2
              obtain ⟨lb, hlb⟩ : ∃ lb, lb = (ol.take k).any negS := ⟨_, rfl⟩
              rw [← hlb] at HTk ⊢
              clear hlb
              cases lb
              · by_cases hs : ys < 0
                · have HTe : Hid ((ol.take (k + 1)).any negS = true) := Lib.hid (by rw [HTk.out]; simp [negS, hs])
                  go_wp2
                  go_roundw
                  case rel => exact ⟨k + 1, _, rfl, by omega, by go_num, by rw [HTe.out], HK⟩
                  case measure => simp [intOf]; omega
                · have HTe : Hid ((ol.take (k + 1)).any negS = false) := Lib.hid (by rw [HTk.out]; simp [negS]; omega)
                  go_wp2
                  go_roundw
                  case rel => exact ⟨k + 1, _, rfl, by omega, by go_num, by rw [HTe.out], HK⟩
                  case measure => simp [intOf]; omega
              · have HTe : Hid ((ol.take (k + 1)).any negS = true) := Lib.hid (by rw [HTk.out]; rfl)
                go_wp2
                go_roundw
                case rel => exact ⟨k + 1, _, rfl, by omega, by go_num, by rw [HTe.out], HK⟩
                case measure => simp [intOf]; omega
            · have hlti : ¬ (k : Int) < (m : Int) := by omega
              have hb : (ol.take k).any negS = false := by rw [List.take_of_length_le (by have := HM.out; omega)]; exact HLost.out
              rw [hb]
              clear hb
              obtain ⟨bz, oz, haz, hBz, hcz⟩ := HK.out.2.2.2.sl.cells (by simp)
              cases haz
              have z0 := hcz 0 (by simp) 0 (by omega)
              simp only [rwC, List.getElem_cons_zero, Nat.zero_mul, Nat.add_zero, List.getElem?_cons_zero] at z0
              rw [HRm.out] at z0
              clear hcz hBz
              have q0 : wx.cell? ⟨Q, 0, none⟩ = some (.int .i64 0) := HK.out.2.2.1.cell
              have q1 : wx.cell? ⟨Q, 1, none⟩ = some (.int .i64 0) := HK.out.2.2.1.cell
              have q2 : wx.cell? ⟨Q, 2, none⟩ = some (.int .i64 0) := HK.out.2.2.1.cell
              have hfe := neq_fl ⟨0, 0, 0⟩ ⟨0, 0, 0⟩
              rw [show sameFl ⟨0, 0, 0⟩ ⟨0, 0, 0⟩ = true from rfl] at hfe
              have x1 : wx.cell? ⟨H, 1, none⟩ = some (.slice oa2 m oc2) := HK.out.2.1.cell
              have hmm : ((m : Int) != (m : Int)) = false := by simp
              go_wp2
              go_quiet (fail)
              go_wp2
              clear q0 q1 q2 z0 x1 hfe hmm
              go_loopw [7] (fun i wr => ∃ (j : Nat) (wy : World), wy = wr ∧ j ≤ m ∧ i = .int .i64 j ∧ Hid (Below wx.heap.size wx wy)) (fun i _ => m - (intOf i).toNat)
              case atStart => exact ⟨0, _, rfl, by omega, rfl, Lib.hid (below_refl_drewN _ _)⟩
              case round =>
                obtain ⟨j, wy, rfl, hj, rfl, HY⟩ := hrel
                have HPy := Lib.hid (HK.out.2.2.2.next HY.out)
                have x1 : wy.cell? ⟨H, 1, none⟩ = some (.slice oa2 m oc2) := (HK.out.2.1.next HY.out).cell
                by_cases hltj : j < m
                · have hltji : (j : Int) < (m : Int) := by omega
                  have hj1 : j < ol.length := by have := HM.out; omega
                  have hj2 : j < rl.length := by have := HRm.out; omega
                  obtain ⟨bz, oz, haz, hBz, hcz⟩ := HPy.out.sl.cells (by simp)
                  cases haz
                  have z0 := hcz 0 (by simp) 0 (by omega)
                  simp only [rwC, List.getElem_cons_zero, Nat.zero_mul, Nat.add_zero, List.getElem?_cons_zero] at z0
                  rw [HRm.out] at z0
                  obtain ⟨b5, off5, hae5, hB5, hc5⟩ := (HPy.out.s1 _ (List.mem_singleton_self _)).cells (by intro e; simp only at e; rw [e] at hj2; simp at hj2)
                  simp only at hae5 hc5
                  subst hae5
                  obtain ⟨p0, p1, p2⟩ := pl_cells (fun q hq => hc5 j hj2 q hq)
                  obtain ⟨b2, off2, hae2, hB2, hc2⟩ := (HS2.out.next (after HK.out.1 HY.out)).cells (by intro e; rw [e] at hj1; simp at hj1)
                  subst hae2
                  obtain ⟨d0, d1, d2, d3⟩ := sy_cells (fun q hq => hc2 j hj1 q hq)
                  have hpe : rl[j] = ⟨0, ol[j].sec, ol[j].off⟩ := by
                    have h1 := List.getElem?_eq_getElem hj2
                    have h2 : rl[j]? = some ⟨0, ol[j].sec, ol[j].off⟩ := by
                      rw [HRl.out, List.getElem?_map, List.getElem?_eq_getElem hj1]; rfl
                    rw [h1] at h2
                    exact Option.some.inj h2
                  rw [hpe] at p0 p1 p2
                  simp only [] at p0 p1 p2
                  generalize ol[j].sec = ys at p1 d2
                  generalize ol[j].off = yo at p2 d3
                  have hnq := neq_pl ⟨0, ys, yo⟩ ⟨0, ys, yo⟩
                  rw [samePl_iff.2 rfl] at hnq
                  clear hcz hBz hc5 hB5 hc2 hB2 hpe d0 d1
                  go_wp2
                  go_quiet (fail)
                  go_wp2
                  go_roundw
                  case rel => exact ⟨j + 1, _, rfl, by omega, by go_num, Lib.hid (below_drewN HY.out _)⟩
                  case measure => simp [intOf]; omega
                · have hltji : ¬ (j : Int) < (m : Int) := by omega
                  have HB7 := Lib.hid (after HK.out.1 HY.out)
                  go_wp2_with fail
                  refine (HRs.out _ HB7.out).mono ?_
                  rintro e u6 ⟨rfl, hb⟩
                  have HB8 := Lib.hid (after HB7.out hb)
                  clear hb
                  go_wp2
                  go_ret
                  exact ⟨rfl, HB8.out⟩
  · go_wp2_with fail
    refine (HRs.out _ HB.out).mono ?_
    rintro e u3 ⟨rfl, hb⟩
    have HB3 := Lib.hid (after HB.out hb)
    clear hb
    go_wp2
    go_ret
    exact ⟨rfl, HB3.out⟩
end Go.Proofs.YtdgfadabaejkhaaGreatDoor
