/- shrink's law: ShrinkOrder. -/
import Derived.Test.YtfnakgipamjdnaaGreatDoors2

namespace Go.Proofs.YtfnakgipamjdnaaGreatDoor
set_option linter.unusedVariables false
set_option linter.unusedSimpArgs false
open Go.ChangeShapes Go.WideShapes Go.Deep Go.RowKit

theorem standL_nodup (S : List Sc) (rep : List Int) : (standL S rep).Nodup := by
  unfold standL
  refine ((sortK_perm _).nodup_iff).2 ?_
  unfold selfL
  exact List.Pairwise.filter _ List.nodup_range
theorem stand_order {S : List Sc} {rep : List Int} {q pp p : Nat} (hl : rep.length ≤ 256) (h1 : (standL S rep)[q]? = some pp) (h2 : (standL S rep)[q + 1]? = some p) : kindN S pp < kindN S p ∨ (kindN S pp = kindN S p ∧ pp < p) := by
  have hq2 := (List.getElem?_eq_some_iff.1 h2).1
  have hq := (List.getElem?_eq_some_iff.1 h1).1
  have e1 := (List.getElem?_eq_some_iff.1 h1).2
  have e2 := (List.getElem?_eq_some_iff.1 h2).2
  have hu := List.pairwise_iff_getElem.1 (standL_up (S := S) (rep := rep)) q (q + 1) hq hq2 (by omega)
  have hn := List.pairwise_iff_getElem.1 (standL_nodup S rep) q (q + 1) hq hq2 (by omega)
  rw [e1, e2] at hu hn
  have l1 := (List.getElem?_eq_some_iff.1 (standL_mem.1 (List.mem_of_getElem? h1))).1
  have l2 := (List.getElem?_eq_some_iff.1 (standL_mem.1 (List.mem_of_getElem? h2))).1
  have hn2 : pp ≠ p := hn
  unfold keyU at hu
  omega
theorem align_get {S : List Sc} {rep : List Int} {i p : Nat} (h : (standL S rep)[i]? = some p) : (alignL S rep)[i]? = some (mostN S rep p rep.length) := by
  unfold alignL; rw [List.getElem?_map, h]; rfl
def FoundQ (S : List Sc) (rep : List Int) (p : Nat) (mo : Int) (k : Nat) : Prop := ∃ j, j < k ∧ rep[j]? = some (p : Int) ∧ alignN S j = mo
def FoundV (S : List Sc) (rep : List Int) (p : Nat) (mo : Int) (k : Nat) (f : Value) : Prop := ∃ fb : Bool, f = .bool fb ∧ (fb = true ↔ FoundQ S rep p mo k)
set_option maxRecDepth 100000 in
set_option maxHeartbeats 8000000 in
theorem ShrinkOrder_walk (w : World) (ua : Option Addr) (un uc : Nat) (L : List Ms) (hun : un ≤ maxLen) (hs : SL msC 6 w w.heap.size ua un L) (hno : Notes w w.heap.size L) (hg : ∀ m ∈ L, GoodSc m.sc) (hb : ∀ m ∈ L, m.sc.rels.length * 32 ≤ reachBytes)
    (e0 : Int) (he : -9223372036854775808 ≤ e0 ∧ e0 ≤ 9223372036854775807) (hT : TabP w) :
    Calls Tryz.prog 14 #[.slice ua un uc, .int .i64 e0] w (RetB (.bool true) w) := by
  have hlen : (L.map (·.sc)).length = un := by rw [List.length_map]; exact hs.len.symm
  have hni : (un : Int) ≤ 9223372036854775807 := by unfold maxLen at hun; omega
  have HBg : Hid (∀ u, Below w.heap.size w u → Calls Tryz.prog 36 #[.slice ua un uc] u (BoolP u)) := Lib.hid fun u hu => rBigU_any ua un uc L u hun (hs.next hu) (hno.next hu) hb
  have HSk : Hid (∀ u, Below w.heap.size w u → Calls Tryz.prog 69 #[] u (RetB (.bool true) u)) := Lib.hid fun u hu => shrunk_is u (hT.next hu)
  have HB : Hid (Below w.heap.size w w) := Lib.hid (Below.refl _ w)
  by_cases hok : unitsR (L.map (·.sc)) = true ∧ 0 ≤ e0 ∧ e0 < (un : Int)
  rotate_left
  · have HSn : Hid (∀ u, Below w.heap.size w u → Calls Tryz.prog 71 #[.slice ua un uc, .int .i64 e0] u (RetB (.tuple #[.agg #[.slice none 0 0, .slice none 0 0, .slice none 0 0], .int .i64 1]) u)) := Lib.hid fun u hu => shrink_no u ua un uc L e0 hun (hs.next hu) (hno.next hu) hg hb (hT.next hu) hok
    clear hs hno hg hb hT hlen hun hok he
    go_enter Tryz.func14, Tryz.ntmps14
    go_wp2_with fail
    refine (HBg.out _ HB.out).mono ?_
    rintro e u ⟨r, rfl, hb⟩
    replace HB := Lib.hid (after HB.out hb)
    clear hb
    cases r
    rotate_left
    · go_wp2
      go_ret
      exact ⟨rfl, HB.out⟩
    go_wp2_with fail
    refine (HSn.out _ HB.out).mono ?_
    rintro e u2 ⟨rfl, hb⟩
    replace HB := Lib.hid (after HB.out hb)
    clear hb
    obtain ⟨V1, hV1⟩ : ∃ x, x = u2.alloc (.cells #[.slice none 0 0, .slice none 0 0, .slice none 0 0] 84) := ⟨_, rfl⟩
    have hbv : Below u2.heap.size u2 V1 := by rw [hV1]; exact lit_below _ _
    replace HB := Lib.hid (after HB.out hbv)
    have HVE : Hid (u2.alloc (.cells #[.slice none 0 0, .slice none 0 0, .slice none 0 0] 84) = V1) := Lib.hid hV1.symm
    clear hV1 hbv
    go_wp2_with fail
    rw [HVE.out]
    refine (HSk.out _ HB.out).mono ?_
    rintro e u4 ⟨rfl, hb⟩
    replace HB := Lib.hid (after HB.out hb)
    clear hb
    go_wp2
    go_ret
    exact ⟨rfl, HB.out⟩
  have hn2 : un ≤ 256 := by have := units_len hok.1; rw [hlen] at this; exact this
  have HSy : Hid (∀ u, Below w.heap.size w u → Calls Tryz.prog 71 #[.slice ua un uc, .int .i64 e0] u (ShrP (L.map (·.sc)) e0 un u)) := Lib.hid fun u hu => shrink_yes u ua un uc L e0 hun (hs.next hu) (hno.next hu) hg hb (hT.next hu) hok
  have HUn := Lib.hid (fun u (hu : Below w.heap.size w u) => hs.next hu)
  have HUl := Lib.hid hs.len
  obtain ⟨S, hS⟩ : ∃ S, S = L.map (·.sc) := ⟨_, rfl⟩
  rw [← hS] at hlen hok HSy
  have HY : Hid (unitsR S = true) := Lib.hid hok.1
  have HLn := Lib.hid hlen
  have HSe := Lib.hid hS
  have HN2 := Lib.hid hn2
  have hn3 : (un : Int) ≤ 256 := by omega
  have t00 : ((un : Int) != (un : Int)) = false := by simp
  clear hs hno hg hb hT hlen hun hok he hS hn2
  go_enter Tryz.func14, Tryz.ntmps14
  go_wp2_with fail
  refine (HBg.out _ HB.out).mono ?_
  rintro e u ⟨r, rfl, hb⟩
  replace HB := Lib.hid (after HB.out hb)
  clear hb
  cases r
  rotate_left
  · go_wp2
    go_ret
    exact ⟨rfl, HB.out⟩
  go_wp2_with fail
  refine (HSy.out _ HB.out).mono ?_
  rintro e u2 ⟨j, Z, la, lc, aa, ac, hfx, rfl, hz, hl, ha, hb⟩
  replace HB := Lib.hid (after HB.out hb)
  obtain ⟨ins, hins⟩ : ∃ x, x = inS S e0 := ⟨_, rfl⟩
  rw [← hins] at hfx hz hl ha ⊢
  obtain ⟨rep, hrep⟩ : ∃ x, x = endL ins (foldN S ins j) := ⟨_, rfl⟩
  rw [← hrep] at hz hl ha ⊢
  have hrl : rep.length = un := by rw [hrep, endL_len, foldN_len]; exact HLn.out
  have hsf := stand_few (S := S) (rep := rep) (by rw [hrl]; exact HN2.out)
  obtain ⟨ln, hln⟩ : ∃ x, x = (standL S rep).length := ⟨_, rfl⟩
  have HLv : Hid (∀ i, i < ln → ∃ p : Nat, (standL S rep)[i]? = some p ∧ p < un ∧ rep[p]? = some (p : Int) ∧ (alignL S rep)[i]? = some (mostN S rep p un)) := Lib.hid (fun i hi => by
    refine ⟨(standL S rep)[i]'(by omega), List.getElem?_eq_getElem (by omega), ?_, ?_, ?_⟩
    · have := (List.getElem?_eq_some_iff.1 (standL_mem.1 (List.getElem_mem (l := standL S rep) (n := i) (by omega)))).1
      omega
    · exact standL_mem.1 (List.getElem_mem (l := standL S rep) (n := i) (by omega))
    · have := align_get (S := S) (rep := rep) (i := i) (List.getElem?_eq_getElem (by omega))
      rw [hrl] at this; exact this)
  have HOrd : Hid (∀ q pp p, (standL S rep)[q]? = some pp → (standL S rep)[q + 1]? = some p → kindN S pp < kindN S p ∨ (kindN S pp = kindN S p ∧ pp < p)) := Lib.hid (fun q pp p h1 h2 => stand_order (by rw [hrl]; exact HN2.out) h1 h2)
  have HPos : Hid (∀ j, 0 ≤ alignN S j) := Lib.hid (fun j => by
    unfold alignN
    cases h : S[j]? with
    | none => simp
    | some s => exact (units_sec HY.out h).1.a0)
  have HCnt : Hid ((selfK rep un).length = ln) := Lib.hid (by rw [hln, standL_len]; unfold selfK selfL; rw [hrl])
  have HRl := Lib.hid hrl
  have HZ := Lib.hid hz
  rw [← hln] at hl ha ⊢
  have HLs := Lib.hid hl
  have HAs := Lib.hid ha
  have HLm : Hid (ln ≤ 256) := Lib.hid (by omega)
  have hlni : (ln : Int) ≤ 256 := by omega
  have t01 : ((ln : Int) != (ln : Int)) = false := by simp
  have t02 : ((ln : Int) == (ln : Int)) = true := by simp
  obtain ⟨K, hK⟩ : ∃ x, x = u2.heap.size := ⟨_, rfl⟩
  obtain ⟨V1, hV1⟩ : ∃ x, x = u2.alloc (.cells #[.slice (some ⟨Z, 0, none⟩) un un, .slice la ln lc, .slice aa ln ac] 84) := ⟨_, rfl⟩
  have hbv : Below u2.heap.size u2 V1 := by rw [hV1]; exact lit_below _ _
  have HRK : Hid (RB V1 K #[.slice (some ⟨Z, 0, none⟩) un un, .slice la ln lc, .slice aa ln ac] 84) := Lib.hid (by rw [hV1, hK]; exact rb_new _ _ _)
  replace HB := Lib.hid (after HB.out hbv)
  replace HZ := Lib.hid (HZ.out.next hbv)
  replace HLs := Lib.hid (HLs.out.next hbv)
  replace HAs := Lib.hid (HAs.out.next hbv)
  have HVE : Hid (u2.alloc (.cells #[.slice (some ⟨Z, 0, none⟩) un un, .slice la ln lc, .slice aa ln ac] 84) = V1) := Lib.hid hV1.symm
  have HKe := Lib.hid hK
  have x0 : V1.cell? ⟨K, 0, none⟩ = some (.slice (some ⟨Z, 0, none⟩) un un) := HRK.out.cell
  have x1 : V1.cell? ⟨K, 1, none⟩ = some (.slice la ln lc) := HRK.out.cell
  have x2 : V1.cell? ⟨K, 2, none⟩ = some (.slice aa ln ac) := HRK.out.cell
  rw [hV1, hK] at x0 x1 x2
  clear hV1 hbv hK hz hl ha hb hfx hins hrep hrl hsf hln HSy
  go_wp2_with fail
  rw [HVE.out, ← HKe.out]
  clear x0 x1 x2
  go_loopw [7] (fun i wr => ∃ (k : Nat) (wx : World), wx = wr ∧ k ≤ ln ∧ i = .int .i64 k ∧ Hid (Below V1.heap.size V1 wx)) (fun i _ => ln - (intOf i).toNat)
  case atStart => exact ⟨0, _, rfl, by omega, rfl, Lib.hid (Below.refl _ _)⟩
  case round =>
    obtain ⟨i, wx, rfl, hi, rfl, HK⟩ := hrel
    have x0 : wx.cell? ⟨K, 0, none⟩ = some (.slice (some ⟨Z, 0, none⟩) un un) := (HRK.out.next HK.out).cell
    have x1 : wx.cell? ⟨K, 1, none⟩ = some (.slice la ln lc) := (HRK.out.next HK.out).cell
    have x2 : wx.cell? ⟨K, 2, none⟩ = some (.slice aa ln ac) := (HRK.out.next HK.out).cell
    by_cases hlt : i < ln
    · have hlti : (i : Int) < (ln : Int) := by omega
      have HLT := Lib.hid hlt
      obtain ⟨p, hp1, hp2, hp3, hp4⟩ := HLv.out i hlt
      obtain ⟨mo, hmo⟩ : ∃ z, z = mostN S rep p un := ⟨_, rfl⟩
      rw [← hmo] at hp4
      have hls := HLs.out.next HK.out
      have has := HAs.out.next HK.out
      have hlp : ((standL S rep).map Int.ofNat)[i]? = some (p : Int) := by rw [List.getElem?_map, hp1]; rfl
      obtain ⟨lb, lo, hla, -, -⟩ := hls.cells (by intro e; rw [e] at hlp; cases hlp)
      obtain ⟨ab, ao, haa, -, -⟩ := has.cells (by intro e; rw [e] at hp4; cases hp4)
      subst hla
      subst haa
      have l0 : wx.cell? ⟨lb, lo + i, none⟩ = some (.int .i64 (p : Int)) := ints_cells hls (Below.refl _ _) hlp
      have z0 : wx.cell? ⟨Z, p, none⟩ = some (.int .i64 (p : Int)) := by rw [(HZ.out.next HK.out).cell]; exact inA_get hp3
      have HA0 : Hid (∀ v, Below wx.heap.size wx v → v.cell? ⟨ab, ao + i, none⟩ = some (.int .i64 mo)) := Lib.hid (fun v hv => ints_cells has hv hp4)
      have hul := HUn.out wx (after HB.out HK.out)
      obtain ⟨mi, hmi⟩ : ∃ x, L[p]? = some x := ⟨_, List.getElem?_eq_getElem (by rw [← HUl.out]; exact hp2)⟩
      obtain ⟨ub, uo, hua, -, -⟩ := hul.cells (by intro e; rw [e] at hmi; cases hmi)
      subst hua
      obtain ⟨-, y1, -, -, -, -⟩ := unit_cells hul (Below.refl _ _) hmi
      have hkp : mi.sc.kind = kindN S p := by unfold kindN; rw [HSe.out, List.getElem?_map, hmi]; rfl
      rw [hkp] at y1
      have hpi : (p : Int) < (un : Int) := by omega
      have hpp : ((p : Int) != (p : Int)) = false := by simp
      have HP2 := Lib.hid (And.intro hp2 hp3)
      have HMo := Lib.hid hmo
      have HBx := Lib.hid (after HB.out HK.out)
      -- behind the looks at the one before: the inner loop
      have hprev : i = 0 ∨ ∃ q pp, i = q + 1 ∧ (standL S rep)[q]? = some pp ∧ pp < un ∧ (kindN S pp < kindN S p ∨ (kindN S pp = kindN S p ∧ pp < p)) := by
        cases i with
        | zero => exact .inl rfl
        | succ q =>
          obtain ⟨pp, h1, h2, -, -⟩ := HLv.out q (by omega)
          exact .inr ⟨q, pp, rfl, h1, h2, HOrd.out q pp p h1 hp1⟩
      have HHp := Lib.hid hprev
      clear hlt hi hp1 hp2 hp3 hp4 hmo hls has hlp hul hmi hkp hprev
      rcases HHp.out with h0 | ⟨q, pp, hq, hq1, hq2, hord⟩
      · clear HHp
        have HH0 := Lib.hid h0
        clear h0
        go_wp2
        have e1 : ¬ (0 : Int) < (i : Int) := by have := HH0.out; omega
        have e5 : ¬ 0 < i := by have := HH0.out; omega
        go_big_quiet (fail)
        clear e1 e5
        obtain ⟨wq, hwq⟩ : ∃ x, x = wx.drewN nq := ⟨_, rfl⟩
        have hbq : Below wx.heap.size wx wq := by rw [hwq]; exact below_drewN (Below.refl _ _) _
        rw [← hwq]
        have HBq := Lib.hid hbq
        clear hwq hbq x0 x1 x2 l0 z0 y1
        go_wp2
        go_loopw [9, 10] (fun f jv wr => ∃ (k : Nat) (wy : World), wy = wr ∧ k ≤ un ∧ jv = .int .i64 k ∧ FoundV S rep p mo k f ∧ Hid (Below wx.heap.size wx wy)) (fun _ jv _ => un - (intOf jv).toNat)
        case atStart => exact ⟨0, _, rfl, by omega, rfl, ⟨false, rfl, fun h => (by cases h), fun ⟨j, h, _⟩ => absurd h (Nat.not_lt_zero _)⟩, HBq⟩
        case round =>
          clear HBq
          obtain ⟨k, wy, rfl, hk, rfl, ⟨fb, rfl, hF⟩, HBy⟩ := hrel
          have HF := Lib.hid hF
          clear hF
          by_cases hltk : k < un
          · have hltki : (k : Int) < (un : Int) := by omega
            have HLTk := Lib.hid hltk
            obtain ⟨v, hv⟩ : ∃ v, rep[k]? = some v := ⟨_, List.getElem?_eq_getElem (by rw [HRl.out]; exact hltk)⟩
            have hbw := after HBx.out HBy.out
            have hul := HUn.out wy hbw
            obtain ⟨mk, hmk⟩ : ∃ x, L[k]? = some x := ⟨_, List.getElem?_eq_getElem (by rw [← HUl.out]; exact hltk)⟩
            obtain ⟨-, -, -, y3, -, -⟩ := unit_cells hul (Below.refl _ _) hmk
            have hal : mk.sc.align = alignN S k := by unfold alignN; rw [HSe.out, List.getElem?_map, hmk]; rfl
            obtain ⟨al, hal2⟩ : ∃ z, z = alignN S k := ⟨_, rfl⟩
            rw [hal, ← hal2] at y3
            have hky := after HK.out HBy.out
            have x0 : wy.cell? ⟨K, 0, none⟩ = some (.slice (some ⟨Z, 0, none⟩) un un) := (HRK.out.next hky).cell
            have x2 : wy.cell? ⟨K, 2, none⟩ = some (.slice (some ⟨ab, ao, none⟩) ln ac) := (HRK.out.next hky).cell
            have z0 : wy.cell? ⟨Z, k, none⟩ = some (.int .i64 v) := by rw [(HZ.out.next hky).cell]; exact inA_get hv
            have a0 : wy.cell? ⟨ab, ao + i, none⟩ = some (.int .i64 mo) := HA0.out wy HBy.out
            have HX5 : Hid ((∀ v, Below wy.heap.size wy v → v.cell? ⟨K, 0, none⟩ = some (.slice (some ⟨Z, 0, none⟩) un un)) ∧ (∀ v, Below wy.heap.size wy v → v.cell? ⟨K, 2, none⟩ = some (.slice (some ⟨ab, ao, none⟩) ln ac)) ∧ (∀ v, Below wy.heap.size wy v → v.cell? ⟨ub, uo + k * 6 + 3, none⟩ = some (.int .i64 al)) ∧ (∀ v, Below wy.heap.size wy v → v.cell? ⟨ab, ao + i, none⟩ = some (.int .i64 mo))) := Lib.hid ⟨fun v hv => ((HRK.out.next hky).next hv).cell, fun v hv => ((HRK.out.next hky).next hv).cell, fun v hv => (hv.cell (p := ⟨ub, uo + k * 6 + 3, none⟩) (cell_lt y3)).trans y3, fun v hv => HA0.out v (after HBy.out hv)⟩
            have HV := Lib.hid hv
            have HAl2 := Lib.hid hal2
            clear hv hbw hul hmk hal hal2 hky hk hltk
            by_cases e : v = (p : Int)
            · have t1 : (v == (p : Int)) = true := by simp [e]
              have HGe : Hid (¬ mo < al) := Lib.hid (by have := mostN_ge (S := S) (rep := rep) (a := p) un k HLTk.out (by rw [HV.out, e]); rw [HMo.out, HAl2.out]; omega)
              have HVp : Hid (rep[k]? = some (p : Int)) := Lib.hid (by rw [HV.out, e])
              subst e
              cases fb
              · have hcs : al = mo ∨ al ≠ mo := by omega
                rcases hcs with hc | hc
                · have HF5 : Hid (FoundV S rep p mo (k + 1) (.bool true)) := Lib.hid ⟨true, rfl, fun _ => ⟨k, by omega, HVp.out, by rw [← HAl2.out, hc]⟩, fun _ => rfl⟩
                  have t2 : (al == mo) = true := by simp [hc]
                  clear hc
                  go_wp2
                  go_big_quiet (fail)
                  obtain ⟨wz, hwz⟩ : ∃ x, x = wy.drewN nq := ⟨_, rfl⟩
                  have hbz : Below wy.heap.size wy wz := by rw [hwz]; exact below_drewN (Below.refl _ _) _
                  rw [← hwz]
                  have x0 : wz.cell? ⟨K, 0, none⟩ = some (.slice (some ⟨Z, 0, none⟩) un un) := HX5.out.1 wz hbz
                  have x2 : wz.cell? ⟨K, 2, none⟩ = some (.slice (some ⟨ab, ao, none⟩) ln ac) := HX5.out.2.1 wz hbz
                  have y3 : wz.cell? ⟨ub, uo + k * 6 + 3, none⟩ = some (.int .i64 al) := HX5.out.2.2.1 wz hbz
                  have a0 : wz.cell? ⟨ab, ao + i, none⟩ = some (.int .i64 mo) := HX5.out.2.2.2 wz hbz
                  have HBz := Lib.hid (after HBy.out hbz)
                  clear hwz hbz
                  go_wp2
                  have e1 : ¬ mo < al := by have := HGe.out; omega
                  go_big_quiet (fail)
                  go_wp2
                  have HB5 := Lib.hid (below_drewN HBz.out nq)
                  go_roundw
                  case rel => first | exact ⟨k + 1, _, rfl, by have := HLTk.out; omega, by go_num, HF5.out, HB5⟩ | exact ⟨_, _, _, ⟨k + 1, by have := HLTk.out; omega, rfl, HF5.out, HB5⟩, rfl, rfl, rfl⟩ | exact ⟨_, _, _, ⟨k + 1, _, rfl, by have := HLTk.out; omega, by go_num, HF5.out, HB5⟩, rfl, rfl, rfl⟩
                  case measure => have := HLTk.out; simp [intOf]; omega
                · have HF5 : Hid (FoundV S rep p mo (k + 1) (.bool false)) := Lib.hid ⟨false, rfl, fun h => (by cases h), fun ⟨j, h1, h2, h3⟩ => by
                    rcases Nat.lt_or_ge j k with h | h
                    · exact HF.out.2 ⟨j, h, h2, h3⟩
                    · have : j = k := by omega
                      subst this
                      rw [← HAl2.out] at h3
                      exact absurd h3 hc⟩
                  have t2 : (al == mo) = false := by simp [hc]
                  clear hc
                  go_wp2
                  go_big_quiet (fail)
                  obtain ⟨wz, hwz⟩ : ∃ x, x = wy.drewN nq := ⟨_, rfl⟩
                  have hbz : Below wy.heap.size wy wz := by rw [hwz]; exact below_drewN (Below.refl _ _) _
                  rw [← hwz]
                  have x0 : wz.cell? ⟨K, 0, none⟩ = some (.slice (some ⟨Z, 0, none⟩) un un) := HX5.out.1 wz hbz
                  have x2 : wz.cell? ⟨K, 2, none⟩ = some (.slice (some ⟨ab, ao, none⟩) ln ac) := HX5.out.2.1 wz hbz
                  have y3 : wz.cell? ⟨ub, uo + k * 6 + 3, none⟩ = some (.int .i64 al) := HX5.out.2.2.1 wz hbz
                  have a0 : wz.cell? ⟨ab, ao + i, none⟩ = some (.int .i64 mo) := HX5.out.2.2.2 wz hbz
                  have HBz := Lib.hid (after HBy.out hbz)
                  clear hwz hbz
                  go_wp2
                  have e1 : ¬ mo < al := by have := HGe.out; omega
                  go_big_quiet (fail)
                  go_wp2
                  have HB5 := Lib.hid (below_drewN HBz.out nq)
                  go_roundw
                  case rel => first | exact ⟨k + 1, _, rfl, by have := HLTk.out; omega, by go_num, HF5.out, HB5⟩ | exact ⟨_, _, _, ⟨k + 1, by have := HLTk.out; omega, rfl, HF5.out, HB5⟩, rfl, rfl, rfl⟩ | exact ⟨_, _, _, ⟨k + 1, _, rfl, by have := HLTk.out; omega, by go_num, HF5.out, HB5⟩, rfl, rfl, rfl⟩
                  case measure => have := HLTk.out; simp [intOf]; omega
              · have HF5 : Hid (FoundV S rep p mo (k + 1) (.bool true)) := Lib.hid ⟨true, rfl, fun _ => by
                  obtain ⟨j, h1, h2, h3⟩ := HF.out.1 rfl
                  exact ⟨j, by omega, h2, h3⟩, fun _ => rfl⟩
                go_wp2
                go_big_quiet (fail)
                obtain ⟨wz, hwz⟩ : ∃ x, x = wy.drewN nq := ⟨_, rfl⟩
                have hbz : Below wy.heap.size wy wz := by rw [hwz]; exact below_drewN (Below.refl _ _) _
                rw [← hwz]
                have x0 : wz.cell? ⟨K, 0, none⟩ = some (.slice (some ⟨Z, 0, none⟩) un un) := HX5.out.1 wz hbz
                have x2 : wz.cell? ⟨K, 2, none⟩ = some (.slice (some ⟨ab, ao, none⟩) ln ac) := HX5.out.2.1 wz hbz
                have y3 : wz.cell? ⟨ub, uo + k * 6 + 3, none⟩ = some (.int .i64 al) := HX5.out.2.2.1 wz hbz
                have a0 : wz.cell? ⟨ab, ao + i, none⟩ = some (.int .i64 mo) := HX5.out.2.2.2 wz hbz
                have HBz := Lib.hid (after HBy.out hbz)
                clear hwz hbz
                go_wp2
                have e1 : ¬ mo < al := by have := HGe.out; omega
                go_big_quiet (fail)
                go_wp2
                have HB5 := Lib.hid (below_drewN HBz.out nq)
                go_roundw
                case rel => first | exact ⟨k + 1, _, rfl, by have := HLTk.out; omega, by go_num, HF5.out, HB5⟩ | exact ⟨_, _, _, ⟨k + 1, by have := HLTk.out; omega, rfl, HF5.out, HB5⟩, rfl, rfl, rfl⟩ | exact ⟨_, _, _, ⟨k + 1, _, rfl, by have := HLTk.out; omega, by go_num, HF5.out, HB5⟩, rfl, rfl, rfl⟩
                case measure => have := HLTk.out; simp [intOf]; omega
            · have t1 : (v == (p : Int)) = false := by simp [e]
              have HF5 : Hid (FoundV S rep p mo (k + 1) (.bool fb)) := Lib.hid ⟨fb, rfl, HF.out.trans ⟨fun ⟨j, h1, h2, h3⟩ => ⟨j, by omega, h2, h3⟩, fun ⟨j, h1, h2, h3⟩ => by
                rcases Nat.lt_or_ge j k with h | h
                · exact ⟨j, h, h2, h3⟩
                · have : j = k := by omega
                  subst this
                  rw [HV.out] at h2
                  exact absurd (Option.some.inj h2) e⟩⟩
              have HB5 := HBy
              clear e
              go_wp2
              go_roundw
              case rel => first | exact ⟨k + 1, _, rfl, by have := HLTk.out; omega, by go_num, HF5.out, HB5⟩ | exact ⟨_, _, _, ⟨k + 1, by have := HLTk.out; omega, rfl, HF5.out, HB5⟩, rfl, rfl, rfl⟩ | exact ⟨_, _, _, ⟨k + 1, _, rfl, by have := HLTk.out; omega, by go_num, HF5.out, HB5⟩, rfl, rfl, rfl⟩
              case measure => have := HLTk.out; simp [intOf]; omega
          · have hltki : ¬ (k : Int) < (un : Int) := by omega
            have hku : k = un := by omega
            have hft : fb = true := HF.out.2 (by
              rw [hku]
              obtain ⟨j, h1, h2, h3⟩ := mostN_is (S := S) (rep := rep) (a := p) HPos.out un ⟨p, HP2.out.1, HP2.out.2⟩
              exact ⟨j, h1, h2, by rw [HMo.out]; exact h3⟩)
            subst hft
            have HB6 := Lib.hid (after HK.out HBy.out)
            clear hku hk hltk HF HBy
            go_wp2
            go_roundw
            case rel => exact ⟨i + 1, _, rfl, by have := HLT.out; omega, by go_num, HB6⟩
            case measure => have := HLT.out; simp [intOf]; omega
      · clear HHp
        have l1 : wx.cell? ⟨lb, lo + q, none⟩ = some (.int .i64 (pp : Int)) := ints_cells (HLs.out.next HK.out) (Below.refl _ _) (by rw [List.getElem?_map, hq1]; rfl)
        obtain ⟨mq, hmq⟩ : ∃ x, L[pp]? = some x := ⟨_, List.getElem?_eq_getElem (by rw [← HUl.out]; exact hq2)⟩
        obtain ⟨-, w1, -, -, -, -⟩ := unit_cells (HUn.out wx (after HB.out HK.out)) (Below.refl _ _) hmq
        have hkq : mq.sc.kind = kindN S pp := by unfold kindN; rw [HSe.out, List.getElem?_map, hmq]; rfl
        rw [hkq] at w1
        obtain ⟨k1, hk1⟩ : ∃ z, z = kindN S pp := ⟨_, rfl⟩
        obtain ⟨k2, hk2⟩ : ∃ z, z = kindN S p := ⟨_, rfl⟩
        rw [← hk1] at w1 hord
        rw [← hk2] at y1 hord
        have hwr : IntKind.i64.wrap ((i : Int) - 1) = (q : Int) := by rw [IntKind.wrap_i64]; omega
        have hqi : (q : Int) < (ln : Int) := by omega
        have hppi : (pp : Int) < (un : Int) := by omega
        have HH0 : Hid (0 < i) := Lib.hid (by omega)
        clear hmq hkq hk1 hk2 hq hq1 hq2
        rcases hord with ho | ⟨ho, ho2⟩
        · have t5 : (k1 == k2) = false := by simp; omega
          go_wp2
          have e1 : (0 : Int) < (i : Int) := by have := HH0.out; omega
          have e5 : 0 < i := HH0.out
          have e2 : ¬ k2 < k1 := by omega
          go_big_quiet (fail)
          clear l1 w1 e1 e5
          obtain ⟨wq, hwq⟩ : ∃ x, x = wx.drewN nq := ⟨_, rfl⟩
          have hbq : Below wx.heap.size wx wq := by rw [hwq]; exact below_drewN (Below.refl _ _) _
          rw [← hwq]
          have HBq := Lib.hid hbq
          clear hwq hbq x0 x1 x2 l0 z0 y1
          go_wp2
          go_loopw [9, 10] (fun f jv wr => ∃ (k : Nat) (wy : World), wy = wr ∧ k ≤ un ∧ jv = .int .i64 k ∧ FoundV S rep p mo k f ∧ Hid (Below wx.heap.size wx wy)) (fun _ jv _ => un - (intOf jv).toNat)
          case atStart => exact ⟨0, _, rfl, by omega, rfl, ⟨false, rfl, fun h => (by cases h), fun ⟨j, h, _⟩ => absurd h (Nat.not_lt_zero _)⟩, HBq⟩
          case round =>
            clear HBq
            obtain ⟨k, wy, rfl, hk, rfl, ⟨fb, rfl, hF⟩, HBy⟩ := hrel
            have HF := Lib.hid hF
            clear hF
            by_cases hltk : k < un
            · have hltki : (k : Int) < (un : Int) := by omega
              have HLTk := Lib.hid hltk
              obtain ⟨v, hv⟩ : ∃ v, rep[k]? = some v := ⟨_, List.getElem?_eq_getElem (by rw [HRl.out]; exact hltk)⟩
              have hbw := after HBx.out HBy.out
              have hul := HUn.out wy hbw
              obtain ⟨mk, hmk⟩ : ∃ x, L[k]? = some x := ⟨_, List.getElem?_eq_getElem (by rw [← HUl.out]; exact hltk)⟩
              obtain ⟨-, -, -, y3, -, -⟩ := unit_cells hul (Below.refl _ _) hmk
              have hal : mk.sc.align = alignN S k := by unfold alignN; rw [HSe.out, List.getElem?_map, hmk]; rfl
              obtain ⟨al, hal2⟩ : ∃ z, z = alignN S k := ⟨_, rfl⟩
              rw [hal, ← hal2] at y3
              have hky := after HK.out HBy.out
              have x0 : wy.cell? ⟨K, 0, none⟩ = some (.slice (some ⟨Z, 0, none⟩) un un) := (HRK.out.next hky).cell
              have x2 : wy.cell? ⟨K, 2, none⟩ = some (.slice (some ⟨ab, ao, none⟩) ln ac) := (HRK.out.next hky).cell
              have z0 : wy.cell? ⟨Z, k, none⟩ = some (.int .i64 v) := by rw [(HZ.out.next hky).cell]; exact inA_get hv
              have a0 : wy.cell? ⟨ab, ao + i, none⟩ = some (.int .i64 mo) := HA0.out wy HBy.out
              have HX5 : Hid ((∀ v, Below wy.heap.size wy v → v.cell? ⟨K, 0, none⟩ = some (.slice (some ⟨Z, 0, none⟩) un un)) ∧ (∀ v, Below wy.heap.size wy v → v.cell? ⟨K, 2, none⟩ = some (.slice (some ⟨ab, ao, none⟩) ln ac)) ∧ (∀ v, Below wy.heap.size wy v → v.cell? ⟨ub, uo + k * 6 + 3, none⟩ = some (.int .i64 al)) ∧ (∀ v, Below wy.heap.size wy v → v.cell? ⟨ab, ao + i, none⟩ = some (.int .i64 mo))) := Lib.hid ⟨fun v hv => ((HRK.out.next hky).next hv).cell, fun v hv => ((HRK.out.next hky).next hv).cell, fun v hv => (hv.cell (p := ⟨ub, uo + k * 6 + 3, none⟩) (cell_lt y3)).trans y3, fun v hv => HA0.out v (after HBy.out hv)⟩
              have HV := Lib.hid hv
              have HAl2 := Lib.hid hal2
              clear hv hbw hul hmk hal hal2 hky hk hltk
              by_cases e : v = (p : Int)
              · have t1 : (v == (p : Int)) = true := by simp [e]
                have HGe : Hid (¬ mo < al) := Lib.hid (by have := mostN_ge (S := S) (rep := rep) (a := p) un k HLTk.out (by rw [HV.out, e]); rw [HMo.out, HAl2.out]; omega)
                have HVp : Hid (rep[k]? = some (p : Int)) := Lib.hid (by rw [HV.out, e])
                subst e
                cases fb
                · have hcs : al = mo ∨ al ≠ mo := by omega
                  rcases hcs with hc | hc
                  · have HF5 : Hid (FoundV S rep p mo (k + 1) (.bool true)) := Lib.hid ⟨true, rfl, fun _ => ⟨k, by omega, HVp.out, by rw [← HAl2.out, hc]⟩, fun _ => rfl⟩
                    have t2 : (al == mo) = true := by simp [hc]
                    clear hc
                    go_wp2
                    go_big_quiet (fail)
                    obtain ⟨wz, hwz⟩ : ∃ x, x = wy.drewN nq := ⟨_, rfl⟩
                    have hbz : Below wy.heap.size wy wz := by rw [hwz]; exact below_drewN (Below.refl _ _) _
                    rw [← hwz]
                    have x0 : wz.cell? ⟨K, 0, none⟩ = some (.slice (some ⟨Z, 0, none⟩) un un) := HX5.out.1 wz hbz
                    have x2 : wz.cell? ⟨K, 2, none⟩ = some (.slice (some ⟨ab, ao, none⟩) ln ac) := HX5.out.2.1 wz hbz
                    have y3 : wz.cell? ⟨ub, uo + k * 6 + 3, none⟩ = some (.int .i64 al) := HX5.out.2.2.1 wz hbz
                    have a0 : wz.cell? ⟨ab, ao + i, none⟩ = some (.int .i64 mo) := HX5.out.2.2.2 wz hbz
                    have HBz := Lib.hid (after HBy.out hbz)
                    clear hwz hbz
                    go_wp2
                    have e1 : ¬ mo < al := by have := HGe.out; omega
                    go_big_quiet (fail)
                    go_wp2
                    have HB5 := Lib.hid (below_drewN HBz.out nq)
                    go_roundw
                    case rel => first | exact ⟨k + 1, _, rfl, by have := HLTk.out; omega, by go_num, HF5.out, HB5⟩ | exact ⟨_, _, _, ⟨k + 1, by have := HLTk.out; omega, rfl, HF5.out, HB5⟩, rfl, rfl, rfl⟩ | exact ⟨_, _, _, ⟨k + 1, _, rfl, by have := HLTk.out; omega, by go_num, HF5.out, HB5⟩, rfl, rfl, rfl⟩
                    case measure => have := HLTk.out; simp [intOf]; omega
                  · have HF5 : Hid (FoundV S rep p mo (k + 1) (.bool false)) := Lib.hid ⟨false, rfl, fun h => (by cases h), fun ⟨j, h1, h2, h3⟩ => by
                      rcases Nat.lt_or_ge j k with h | h
                      · exact HF.out.2 ⟨j, h, h2, h3⟩
                      · have : j = k := by omega
                        subst this
                        rw [← HAl2.out] at h3
                        exact absurd h3 hc⟩
                    have t2 : (al == mo) = false := by simp [hc]
                    clear hc
                    go_wp2
                    go_big_quiet (fail)
                    obtain ⟨wz, hwz⟩ : ∃ x, x = wy.drewN nq := ⟨_, rfl⟩
                    have hbz : Below wy.heap.size wy wz := by rw [hwz]; exact below_drewN (Below.refl _ _) _
                    rw [← hwz]
                    have x0 : wz.cell? ⟨K, 0, none⟩ = some (.slice (some ⟨Z, 0, none⟩) un un) := HX5.out.1 wz hbz
                    have x2 : wz.cell? ⟨K, 2, none⟩ = some (.slice (some ⟨ab, ao, none⟩) ln ac) := HX5.out.2.1 wz hbz
                    have y3 : wz.cell? ⟨ub, uo + k * 6 + 3, none⟩ = some (.int .i64 al) := HX5.out.2.2.1 wz hbz
                    have a0 : wz.cell? ⟨ab, ao + i, none⟩ = some (.int .i64 mo) := HX5.out.2.2.2 wz hbz
                    have HBz := Lib.hid (after HBy.out hbz)
                    clear hwz hbz
                    go_wp2
                    have e1 : ¬ mo < al := by have := HGe.out; omega
                    go_big_quiet (fail)
                    go_wp2
                    have HB5 := Lib.hid (below_drewN HBz.out nq)
                    go_roundw
                    case rel => first | exact ⟨k + 1, _, rfl, by have := HLTk.out; omega, by go_num, HF5.out, HB5⟩ | exact ⟨_, _, _, ⟨k + 1, by have := HLTk.out; omega, rfl, HF5.out, HB5⟩, rfl, rfl, rfl⟩ | exact ⟨_, _, _, ⟨k + 1, _, rfl, by have := HLTk.out; omega, by go_num, HF5.out, HB5⟩, rfl, rfl, rfl⟩
                    case measure => have := HLTk.out; simp [intOf]; omega
                · have HF5 : Hid (FoundV S rep p mo (k + 1) (.bool true)) := Lib.hid ⟨true, rfl, fun _ => by
                    obtain ⟨j, h1, h2, h3⟩ := HF.out.1 rfl
                    exact ⟨j, by omega, h2, h3⟩, fun _ => rfl⟩
                  go_wp2
                  go_big_quiet (fail)
                  obtain ⟨wz, hwz⟩ : ∃ x, x = wy.drewN nq := ⟨_, rfl⟩
                  have hbz : Below wy.heap.size wy wz := by rw [hwz]; exact below_drewN (Below.refl _ _) _
                  rw [← hwz]
                  have x0 : wz.cell? ⟨K, 0, none⟩ = some (.slice (some ⟨Z, 0, none⟩) un un) := HX5.out.1 wz hbz
                  have x2 : wz.cell? ⟨K, 2, none⟩ = some (.slice (some ⟨ab, ao, none⟩) ln ac) := HX5.out.2.1 wz hbz
                  have y3 : wz.cell? ⟨ub, uo + k * 6 + 3, none⟩ = some (.int .i64 al) := HX5.out.2.2.1 wz hbz
                  have a0 : wz.cell? ⟨ab, ao + i, none⟩ = some (.int .i64 mo) := HX5.out.2.2.2 wz hbz
                  have HBz := Lib.hid (after HBy.out hbz)
                  clear hwz hbz
                  go_wp2
                  have e1 : ¬ mo < al := by have := HGe.out; omega
                  go_big_quiet (fail)
                  go_wp2
                  have HB5 := Lib.hid (below_drewN HBz.out nq)
                  go_roundw
                  case rel => first | exact ⟨k + 1, _, rfl, by have := HLTk.out; omega, by go_num, HF5.out, HB5⟩ | exact ⟨_, _, _, ⟨k + 1, by have := HLTk.out; omega, rfl, HF5.out, HB5⟩, rfl, rfl, rfl⟩ | exact ⟨_, _, _, ⟨k + 1, _, rfl, by have := HLTk.out; omega, by go_num, HF5.out, HB5⟩, rfl, rfl, rfl⟩
                  case measure => have := HLTk.out; simp [intOf]; omega
              · have t1 : (v == (p : Int)) = false := by simp [e]
                have HF5 : Hid (FoundV S rep p mo (k + 1) (.bool fb)) := Lib.hid ⟨fb, rfl, HF.out.trans ⟨fun ⟨j, h1, h2, h3⟩ => ⟨j, by omega, h2, h3⟩, fun ⟨j, h1, h2, h3⟩ => by
                  rcases Nat.lt_or_ge j k with h | h
                  · exact ⟨j, h, h2, h3⟩
                  · have : j = k := by omega
                    subst this
                    rw [HV.out] at h2
                    exact absurd (Option.some.inj h2) e⟩⟩
                have HB5 := HBy
                clear e
                go_wp2
                go_roundw
                case rel => first | exact ⟨k + 1, _, rfl, by have := HLTk.out; omega, by go_num, HF5.out, HB5⟩ | exact ⟨_, _, _, ⟨k + 1, by have := HLTk.out; omega, rfl, HF5.out, HB5⟩, rfl, rfl, rfl⟩ | exact ⟨_, _, _, ⟨k + 1, _, rfl, by have := HLTk.out; omega, by go_num, HF5.out, HB5⟩, rfl, rfl, rfl⟩
                case measure => have := HLTk.out; simp [intOf]; omega
            · have hltki : ¬ (k : Int) < (un : Int) := by omega
              have hku : k = un := by omega
              have hft : fb = true := HF.out.2 (by
                rw [hku]
                obtain ⟨j, h1, h2, h3⟩ := mostN_is (S := S) (rep := rep) (a := p) HPos.out un ⟨p, HP2.out.1, HP2.out.2⟩
                exact ⟨j, h1, h2, by rw [HMo.out]; exact h3⟩)
              subst hft
              have HB6 := Lib.hid (after HK.out HBy.out)
              clear hku hk hltk HF HBy
              go_wp2
              go_roundw
              case rel => exact ⟨i + 1, _, rfl, by have := HLT.out; omega, by go_num, HB6⟩
              case measure => have := HLT.out; simp [intOf]; omega
        · have t5 : (k1 == k2) = true := by simp [ho]
          have ho3 : ¬ (p : Int) ≤ (pp : Int) := by omega
          go_wp2
          have e1 : (0 : Int) < (i : Int) := by have := HH0.out; omega
          have e5 : 0 < i := HH0.out
          have e2 : ¬ k2 < k1 := by omega
          have e3 : ¬ (p : Int) ≤ (pp : Int) := by omega
          have e4 : ¬ p ≤ pp := by omega
          go_big_quiet (fail)
          clear l1 w1 e1 e5
          obtain ⟨wq, hwq⟩ : ∃ x, x = wx.drewN nq := ⟨_, rfl⟩
          have hbq : Below wx.heap.size wx wq := by rw [hwq]; exact below_drewN (Below.refl _ _) _
          rw [← hwq]
          have HBq := Lib.hid hbq
          clear hwq hbq x0 x1 x2 l0 z0 y1
          go_wp2
          go_loopw [9, 10] (fun f jv wr => ∃ (k : Nat) (wy : World), wy = wr ∧ k ≤ un ∧ jv = .int .i64 k ∧ FoundV S rep p mo k f ∧ Hid (Below wx.heap.size wx wy)) (fun _ jv _ => un - (intOf jv).toNat)
          case atStart => exact ⟨0, _, rfl, by omega, rfl, ⟨false, rfl, fun h => (by cases h), fun ⟨j, h, _⟩ => absurd h (Nat.not_lt_zero _)⟩, HBq⟩
          case round =>
            clear HBq
            obtain ⟨k, wy, rfl, hk, rfl, ⟨fb, rfl, hF⟩, HBy⟩ := hrel
            have HF := Lib.hid hF
            clear hF
            by_cases hltk : k < un
            · have hltki : (k : Int) < (un : Int) := by omega
              have HLTk := Lib.hid hltk
              obtain ⟨v, hv⟩ : ∃ v, rep[k]? = some v := ⟨_, List.getElem?_eq_getElem (by rw [HRl.out]; exact hltk)⟩
              have hbw := after HBx.out HBy.out
              have hul := HUn.out wy hbw
              obtain ⟨mk, hmk⟩ : ∃ x, L[k]? = some x := ⟨_, List.getElem?_eq_getElem (by rw [← HUl.out]; exact hltk)⟩
              obtain ⟨-, -, -, y3, -, -⟩ := unit_cells hul (Below.refl _ _) hmk
              have hal : mk.sc.align = alignN S k := by unfold alignN; rw [HSe.out, List.getElem?_map, hmk]; rfl
              obtain ⟨al, hal2⟩ : ∃ z, z = alignN S k := ⟨_, rfl⟩
              rw [hal, ← hal2] at y3
              have hky := after HK.out HBy.out
              have x0 : wy.cell? ⟨K, 0, none⟩ = some (.slice (some ⟨Z, 0, none⟩) un un) := (HRK.out.next hky).cell
              have x2 : wy.cell? ⟨K, 2, none⟩ = some (.slice (some ⟨ab, ao, none⟩) ln ac) := (HRK.out.next hky).cell
              have z0 : wy.cell? ⟨Z, k, none⟩ = some (.int .i64 v) := by rw [(HZ.out.next hky).cell]; exact inA_get hv
              have a0 : wy.cell? ⟨ab, ao + i, none⟩ = some (.int .i64 mo) := HA0.out wy HBy.out
              have HX5 : Hid ((∀ v, Below wy.heap.size wy v → v.cell? ⟨K, 0, none⟩ = some (.slice (some ⟨Z, 0, none⟩) un un)) ∧ (∀ v, Below wy.heap.size wy v → v.cell? ⟨K, 2, none⟩ = some (.slice (some ⟨ab, ao, none⟩) ln ac)) ∧ (∀ v, Below wy.heap.size wy v → v.cell? ⟨ub, uo + k * 6 + 3, none⟩ = some (.int .i64 al)) ∧ (∀ v, Below wy.heap.size wy v → v.cell? ⟨ab, ao + i, none⟩ = some (.int .i64 mo))) := Lib.hid ⟨fun v hv => ((HRK.out.next hky).next hv).cell, fun v hv => ((HRK.out.next hky).next hv).cell, fun v hv => (hv.cell (p := ⟨ub, uo + k * 6 + 3, none⟩) (cell_lt y3)).trans y3, fun v hv => HA0.out v (after HBy.out hv)⟩
              have HV := Lib.hid hv
              have HAl2 := Lib.hid hal2
              clear hv hbw hul hmk hal hal2 hky hk hltk
              by_cases e : v = (p : Int)
              · have t1 : (v == (p : Int)) = true := by simp [e]
                have HGe : Hid (¬ mo < al) := Lib.hid (by have := mostN_ge (S := S) (rep := rep) (a := p) un k HLTk.out (by rw [HV.out, e]); rw [HMo.out, HAl2.out]; omega)
                have HVp : Hid (rep[k]? = some (p : Int)) := Lib.hid (by rw [HV.out, e])
                subst e
                cases fb
                · have hcs : al = mo ∨ al ≠ mo := by omega
                  rcases hcs with hc | hc
                  · have HF5 : Hid (FoundV S rep p mo (k + 1) (.bool true)) := Lib.hid ⟨true, rfl, fun _ => ⟨k, by omega, HVp.out, by rw [← HAl2.out, hc]⟩, fun _ => rfl⟩
                    have t2 : (al == mo) = true := by simp [hc]
                    clear hc
                    go_wp2
                    go_big_quiet (fail)
                    obtain ⟨wz, hwz⟩ : ∃ x, x = wy.drewN nq := ⟨_, rfl⟩
                    have hbz : Below wy.heap.size wy wz := by rw [hwz]; exact below_drewN (Below.refl _ _) _
                    rw [← hwz]
                    have x0 : wz.cell? ⟨K, 0, none⟩ = some (.slice (some ⟨Z, 0, none⟩) un un) := HX5.out.1 wz hbz
                    have x2 : wz.cell? ⟨K, 2, none⟩ = some (.slice (some ⟨ab, ao, none⟩) ln ac) := HX5.out.2.1 wz hbz
                    have y3 : wz.cell? ⟨ub, uo + k * 6 + 3, none⟩ = some (.int .i64 al) := HX5.out.2.2.1 wz hbz
                    have a0 : wz.cell? ⟨ab, ao + i, none⟩ = some (.int .i64 mo) := HX5.out.2.2.2 wz hbz
                    have HBz := Lib.hid (after HBy.out hbz)
                    clear hwz hbz
                    go_wp2
                    have e1 : ¬ mo < al := by have := HGe.out; omega
                    go_big_quiet (fail)
                    go_wp2
                    have HB5 := Lib.hid (below_drewN HBz.out nq)
                    go_roundw
                    case rel => first | exact ⟨k + 1, _, rfl, by have := HLTk.out; omega, by go_num, HF5.out, HB5⟩ | exact ⟨_, _, _, ⟨k + 1, by have := HLTk.out; omega, rfl, HF5.out, HB5⟩, rfl, rfl, rfl⟩ | exact ⟨_, _, _, ⟨k + 1, _, rfl, by have := HLTk.out; omega, by go_num, HF5.out, HB5⟩, rfl, rfl, rfl⟩
                    case measure => have := HLTk.out; simp [intOf]; omega
                  · have HF5 : Hid (FoundV S rep p mo (k + 1) (.bool false)) := Lib.hid ⟨false, rfl, fun h => (by cases h), fun ⟨j, h1, h2, h3⟩ => by
                      rcases Nat.lt_or_ge j k with h | h
                      · exact HF.out.2 ⟨j, h, h2, h3⟩
                      · have : j = k := by omega
                        subst this
                        rw [← HAl2.out] at h3
                        exact absurd h3 hc⟩
                    have t2 : (al == mo) = false := by simp [hc]
                    clear hc
                    go_wp2
                    go_big_quiet (fail)
                    obtain ⟨wz, hwz⟩ : ∃ x, x = wy.drewN nq := ⟨_, rfl⟩
                    have hbz : Below wy.heap.size wy wz := by rw [hwz]; exact below_drewN (Below.refl _ _) _
                    rw [← hwz]
                    have x0 : wz.cell? ⟨K, 0, none⟩ = some (.slice (some ⟨Z, 0, none⟩) un un) := HX5.out.1 wz hbz
                    have x2 : wz.cell? ⟨K, 2, none⟩ = some (.slice (some ⟨ab, ao, none⟩) ln ac) := HX5.out.2.1 wz hbz
                    have y3 : wz.cell? ⟨ub, uo + k * 6 + 3, none⟩ = some (.int .i64 al) := HX5.out.2.2.1 wz hbz
                    have a0 : wz.cell? ⟨ab, ao + i, none⟩ = some (.int .i64 mo) := HX5.out.2.2.2 wz hbz
                    have HBz := Lib.hid (after HBy.out hbz)
                    clear hwz hbz
                    go_wp2
                    have e1 : ¬ mo < al := by have := HGe.out; omega
                    go_big_quiet (fail)
                    go_wp2
                    have HB5 := Lib.hid (below_drewN HBz.out nq)
                    go_roundw
                    case rel => first | exact ⟨k + 1, _, rfl, by have := HLTk.out; omega, by go_num, HF5.out, HB5⟩ | exact ⟨_, _, _, ⟨k + 1, by have := HLTk.out; omega, rfl, HF5.out, HB5⟩, rfl, rfl, rfl⟩ | exact ⟨_, _, _, ⟨k + 1, _, rfl, by have := HLTk.out; omega, by go_num, HF5.out, HB5⟩, rfl, rfl, rfl⟩
                    case measure => have := HLTk.out; simp [intOf]; omega
                · have HF5 : Hid (FoundV S rep p mo (k + 1) (.bool true)) := Lib.hid ⟨true, rfl, fun _ => by
                    obtain ⟨j, h1, h2, h3⟩ := HF.out.1 rfl
                    exact ⟨j, by omega, h2, h3⟩, fun _ => rfl⟩
                  go_wp2
                  go_big_quiet (fail)
                  obtain ⟨wz, hwz⟩ : ∃ x, x = wy.drewN nq := ⟨_, rfl⟩
                  have hbz : Below wy.heap.size wy wz := by rw [hwz]; exact below_drewN (Below.refl _ _) _
                  rw [← hwz]
                  have x0 : wz.cell? ⟨K, 0, none⟩ = some (.slice (some ⟨Z, 0, none⟩) un un) := HX5.out.1 wz hbz
                  have x2 : wz.cell? ⟨K, 2, none⟩ = some (.slice (some ⟨ab, ao, none⟩) ln ac) := HX5.out.2.1 wz hbz
                  have y3 : wz.cell? ⟨ub, uo + k * 6 + 3, none⟩ = some (.int .i64 al) := HX5.out.2.2.1 wz hbz
                  have a0 : wz.cell? ⟨ab, ao + i, none⟩ = some (.int .i64 mo) := HX5.out.2.2.2 wz hbz
                  have HBz := Lib.hid (after HBy.out hbz)
                  clear hwz hbz
                  go_wp2
                  have e1 : ¬ mo < al := by have := HGe.out; omega
                  go_big_quiet (fail)
                  go_wp2
                  have HB5 := Lib.hid (below_drewN HBz.out nq)
                  go_roundw
                  case rel => first | exact ⟨k + 1, _, rfl, by have := HLTk.out; omega, by go_num, HF5.out, HB5⟩ | exact ⟨_, _, _, ⟨k + 1, by have := HLTk.out; omega, rfl, HF5.out, HB5⟩, rfl, rfl, rfl⟩ | exact ⟨_, _, _, ⟨k + 1, _, rfl, by have := HLTk.out; omega, by go_num, HF5.out, HB5⟩, rfl, rfl, rfl⟩
                  case measure => have := HLTk.out; simp [intOf]; omega
              · have t1 : (v == (p : Int)) = false := by simp [e]
                have HF5 : Hid (FoundV S rep p mo (k + 1) (.bool fb)) := Lib.hid ⟨fb, rfl, HF.out.trans ⟨fun ⟨j, h1, h2, h3⟩ => ⟨j, by omega, h2, h3⟩, fun ⟨j, h1, h2, h3⟩ => by
                  rcases Nat.lt_or_ge j k with h | h
                  · exact ⟨j, h, h2, h3⟩
                  · have : j = k := by omega
                    subst this
                    rw [HV.out] at h2
                    exact absurd (Option.some.inj h2) e⟩⟩
                have HB5 := HBy
                clear e
                go_wp2
                go_roundw
                case rel => first | exact ⟨k + 1, _, rfl, by have := HLTk.out; omega, by go_num, HF5.out, HB5⟩ | exact ⟨_, _, _, ⟨k + 1, by have := HLTk.out; omega, rfl, HF5.out, HB5⟩, rfl, rfl, rfl⟩ | exact ⟨_, _, _, ⟨k + 1, _, rfl, by have := HLTk.out; omega, by go_num, HF5.out, HB5⟩, rfl, rfl, rfl⟩
                case measure => have := HLTk.out; simp [intOf]; omega
            · have hltki : ¬ (k : Int) < (un : Int) := by omega
              have hku : k = un := by omega
              have hft : fb = true := HF.out.2 (by
                rw [hku]
                obtain ⟨j, h1, h2, h3⟩ := mostN_is (S := S) (rep := rep) (a := p) HPos.out un ⟨p, HP2.out.1, HP2.out.2⟩
                exact ⟨j, h1, h2, by rw [HMo.out]; exact h3⟩)
              subst hft
              have HB6 := Lib.hid (after HK.out HBy.out)
              clear hku hk hltk HF HBy
              go_wp2
              go_roundw
              case rel => exact ⟨i + 1, _, rfl, by have := HLT.out; omega, by go_num, HB6⟩
              case measure => have := HLT.out; simp [intOf]; omega
    · have hlti : ¬ (i : Int) < (ln : Int) := by omega
      have HB2 := Lib.hid (after HB.out HK.out)
      have HRK2 := Lib.hid (HRK.out.next HK.out)
      have HZ2 := Lib.hid (HZ.out.next HK.out)
      clear hi hlt
      go_wp2_with fail
      clear x0 x1 x2
      go_loopw [11, 12] (fun av jv wr => ∃ (k : Nat) (wy : World), wy = wr ∧ k ≤ un ∧ av = .int .i64 ((selfK rep k).length : Nat) ∧ jv = .int .i64 k ∧ Hid (Below wx.heap.size wx wy)) (fun _ jv _ => un - (intOf jv).toNat)
      case atStart => exact ⟨0, _, rfl, by omega, rfl, rfl, Lib.hid (Below.refl _ _)⟩
      case round =>
        obtain ⟨k, wy, rfl, hk, rfl, rfl, HBy⟩ := hrel
        have x0 : wy.cell? ⟨K, 0, none⟩ = some (.slice (some ⟨Z, 0, none⟩) un un) := (HRK2.out.next HBy.out).cell
        by_cases hltk : k < un
        · have hltki : (k : Int) < (un : Int) := by omega
          have HLTk := Lib.hid hltk
          obtain ⟨v, hv⟩ : ∃ v, rep[k]? = some v := ⟨_, List.getElem?_eq_getElem (by rw [HRl.out]; exact hltk)⟩
          have z0 : wy.cell? ⟨Z, k, none⟩ = some (.int .i64 v) := by rw [(HZ2.out.next HBy.out).cell]; exact inA_get hv
          have HV := Lib.hid hv
          have hc0 := selfK_len rep k
          have hw1 : IntKind.i64.wrap (((selfK rep k).length : Int) + 1) = ((selfK rep k).length : Int) + 1 := by rw [IntKind.wrap_i64]; omega
          obtain ⟨c0, hcc⟩ : ∃ x, x = (selfK rep k).length := ⟨_, rfl⟩
          have HC := Lib.hid hcc
          rw [← hcc] at hw1 ⊢
          clear hv hk hltk hc0 hcc
          by_cases e : v = (k : Int)
          · have t1 : (v == (k : Int)) = true := by simp [e]
            have HN : Hid ((selfK rep (k + 1)).length = c0 + 1) := Lib.hid (by rw [selfK_in (by rw [HV.out, e]), List.length_append, ← HC.out]; rfl)
            clear e
            go_wp2
            go_roundw
            case rel => exact ⟨k + 1, _, rfl, by have := HLTk.out; omega, by rw [HN.out]; go_num, by go_num, HBy⟩
            case measure => have := HLTk.out; simp [intOf]; omega
          · have t1 : (v == (k : Int)) = false := by simp [e]
            have HN : Hid ((selfK rep (k + 1)).length = c0) := Lib.hid (by rw [selfK_out (by rw [HV.out]; simpa using e), ← HC.out])
            clear e hw1
            go_wp2
            go_roundw
            case rel => exact ⟨k + 1, _, rfl, by have := HLTk.out; omega, by rw [HN.out], by go_num, HBy⟩
            case measure => have := HLTk.out; simp [intOf]; omega
        · have hltki : ¬ (k : Int) < (un : Int) := by omega
          have hku : k = un := by omega
          subst hku
          have HB3 := Lib.hid (after HB2.out HBy.out)
          have HRK3 := Lib.hid (HRK2.out.next HBy.out)
          have hcn := HCnt.out
          rw [hcn]
          clear hk hltk HBy x0 hcn
          go_wp2_with fail
          refine (HSk.out _ HB3.out).mono ?_
          rintro e u6 ⟨rfl, hb⟩
          replace HB3 := Lib.hid (after HB3.out hb)
          have x1 : u6.cell? ⟨K, 1, none⟩ = some (.slice la ln lc) := (HRK3.out.next hb).cell
          clear hb
          go_wp2
          go_ret
          exact ⟨rfl, HB3.out⟩
end Go.Proofs.YtfnakgipamjdnaaGreatDoor
