/- shrink's law: ShrinkReached. -/
import Derived.Test.YtfnakgipamjdnaaGreatDoors1

namespace Go.Proofs.YtfnakgipamjdnaaGreatDoor
set_option linter.unusedVariables false
set_option linter.unusedSimpArgs false
open Go.ChangeShapes Go.WideShapes Go.Deep Go.RowKit

theorem stand_few {S : List Sc} {rep : List Int} (h : rep.length ≤ 256) : (standL S rep).length ≤ 256 := by
  rw [standL_len]; have := selfL_len rep; omega
theorem align_len (S : List Sc) (rep : List Int) : (alignL S rep).length = (standL S rep).length := by unfold alignL; rw [List.length_map]
theorem inS_keep {S : List Sc} {e : Int} {i : Nat} {s : Sc} (hs : S[i]? = some s) (h : s.keep = true ∨ (i : Int) = e) : (inS S e)[i]? = some true := keep_in hs h
theorem inS_len (S : List Sc) (e : Int) : (inS S e).length = S.length := reachB_len _ _
set_option maxRecDepth 100000 in
set_option maxHeartbeats 6000000 in
theorem ShrinkReached_walk (w : World) (ua : Option Addr) (un uc : Nat) (L : List Ms) (hun : un ≤ maxLen) (hs : SL msC 6 w w.heap.size ua un L) (hno : Notes w w.heap.size L) (hg : ∀ m ∈ L, GoodSc m.sc) (hb : ∀ m ∈ L, m.sc.rels.length * 32 ≤ reachBytes)
    (e0 : Int) (he : -9223372036854775808 ≤ e0 ∧ e0 ≤ 9223372036854775807) (hT : TabP w) :
    Calls Tryz.prog 12 #[.slice ua un uc, .int .i64 e0] w (RetB (.bool true) w) := by
  have hlen : (L.map (·.sc)).length = un := by rw [List.length_map]; exact hs.len.symm
  have hni : (un : Int) ≤ 9223372036854775807 := by unfold maxLen at hun; omega
  have HBg : Hid (∀ u, Below w.heap.size w u → Calls Tryz.prog 36 #[.slice ua un uc] u (BoolP u)) := Lib.hid fun u hu => rBigU_any ua un uc L u hun (hs.next hu) (hno.next hu) hb
  have HSk : Hid (∀ u, Below w.heap.size w u → Calls Tryz.prog 69 #[] u (RetB (.bool true) u)) := Lib.hid fun u hu => shrunk_is u (hT.next hu)
  have HRo : Hid (∀ u, Below w.heap.size w u → Calls Tryz.prog 38 #[.slice ua un uc, .int .i64 e0] u (RootsR (L.map (·.sc)) e0 u)) := Lib.hid fun u hu => gRoots_any ua un uc L e0 u hun (hs.next hu) (hno.next hu) hg hb (hT.next hu)
  have HB : Hid (Below w.heap.size w w) := Lib.hid (Below.refl _ w)
  by_cases hok : unitsR (L.map (·.sc)) = true ∧ 0 ≤ e0 ∧ e0 < (un : Int)
  rotate_left
  · have HSn : Hid (∀ u, Below w.heap.size w u → Calls Tryz.prog 71 #[.slice ua un uc, .int .i64 e0] u (RetB (.tuple #[.agg #[.slice none 0 0, .slice none 0 0, .slice none 0 0], .int .i64 1]) u)) := Lib.hid fun u hu => shrink_no u ua un uc L e0 hun (hs.next hu) (hno.next hu) hg hb (hT.next hu) hok
    have HNo : Hid (¬ (unitsR (L.map (·.sc)) = true ∧ 0 ≤ e0 ∧ e0 < ((L.map (·.sc)).length : Int))) := Lib.hid (by rw [hlen]; exact hok)
    clear hs hno hg hb hT hlen hun hok he
    go_enter Tryz.func12, Tryz.ntmps12
    go_wp2_with fail
    refine (HBg.out _ HB.out).mono ?_
    rintro e u ⟨r, rfl, hb⟩
    replace HB := Lib.hid (after HB.out hb)
    clear hb
    cases r
    rotate_left
    · go_wp2
      go_ret
      exact ⟨rfl, HB.out⟩
    go_wp2_with fail
    refine (HSn.out _ HB.out).mono ?_
    rintro e u2 ⟨rfl, hb⟩
    replace HB := Lib.hid (after HB.out hb)
    clear hb
    obtain ⟨K, hK⟩ : ∃ x, x = u2.heap.size := ⟨_, rfl⟩
    obtain ⟨V1, hV1⟩ : ∃ x, x = u2.alloc (.cells #[.slice none 0 0, .slice none 0 0, .slice none 0 0] 84) := ⟨_, rfl⟩
    have hbv : Below u2.heap.size u2 V1 := by rw [hV1]; exact lit_below _ _
    have HRK : Hid (RB V1 K #[.slice none 0 0, .slice none 0 0, .slice none 0 0] 84) := Lib.hid (by rw [hV1, hK]; exact rb_new _ _ _)
    replace HB := Lib.hid (after HB.out hbv)
    have HVE : Hid (u2.alloc (.cells #[.slice none 0 0, .slice none 0 0, .slice none 0 0] 84) = V1) := Lib.hid hV1.symm
    have HKe := Lib.hid hK
    clear hV1 hbv hK
    go_wp2_with fail
    rw [HVE.out, ← HKe.out]
    refine (HRo.out _ HB.out).mono ?_
    intro e u3 hro
    unfold RootsR at hro
    rw [if_neg HNo.out] at hro
    obtain ⟨rfl, hb⟩ := hro
    replace HB := Lib.hid (after HB.out hb)
    replace HRK := Lib.hid (HRK.out.next hb)
    clear hb
    go_wp2_with fail
    refine (HSk.out _ HB.out).mono ?_
    rintro e u4 ⟨rfl, hb⟩
    replace HB := Lib.hid (after HB.out hb)
    replace HRK := Lib.hid (HRK.out.next hb)
    clear hb
    have x0 : u4.cell? ⟨K, 0, none⟩ = some (.slice none 0 0) := HRK.out.cell
    have x1 : u4.cell? ⟨K, 1, none⟩ = some (.slice none 0 0) := HRK.out.cell
    have x2 : u4.cell? ⟨K, 2, none⟩ = some (.slice none 0 0) := HRK.out.cell
    go_wp2
    go_ret
    exact ⟨rfl, HB.out⟩
  have hn2 : un ≤ 256 := by have := units_len hok.1; rw [hlen] at this; exact this
  have HSy : Hid (∀ u, Below w.heap.size w u → Calls Tryz.prog 71 #[.slice ua un uc, .int .i64 e0] u (ShrP (L.map (·.sc)) e0 un u)) := Lib.hid fun u hu => shrink_yes u ua un uc L e0 hun (hs.next hu) (hno.next hu) hg hb (hT.next hu) hok
  have HRe : Hid (∀ u a c rn R, Below w.heap.size w u → SL enZ 1 u u.heap.size a rn R → rn ≤ 1000000 → Calls Tryz.prog 40 #[.slice ua un uc, .slice a rn c] u (ReachR (L.map (·.sc)) R u)) := Lib.hid fun u a c rn R hu hr hrn => gReach_any ua un uc L a rn c R u hun (hs.next hu) (hno.next hu) hg hb hr hrn (hT.next hu)
  have HIs : Hid (∀ u Z rc la ln lc aa an ac rep live align, Below w.heap.size w u → SL enZ 1 u u.heap.size (some ⟨Z, 0, none⟩) un rep → SL enZ 1 u u.heap.size la ln live → SL enZ 1 u u.heap.size aa an align → ln ≤ maxLen → an ≤ maxLen → Calls Tryz.prog 67 #[.slice ua un uc, .agg #[.slice (some ⟨Z, 0, none⟩) un rc, .slice la ln lc, .slice aa an ac]] u (IffP (IsQ (L.map (·.sc)) rep live align) u)) := Lib.hid fun u Z rc la ln lc aa an ac rep live align hu h1 h2 h3 h4 h5 => shrIs_any u ua un uc L _ un rc rep la ln lc live aa an ac align hun (hs.next hu) (hno.next hu) hg hb h1 h2 h3 hun h4 h5 (hT.next hu)
  have HUn := Lib.hid (fun u (hu : Below w.heap.size w u) => hs.next hu)
  have HUl := Lib.hid hs.len
  obtain ⟨S, hS⟩ : ∃ S, S = L.map (·.sc) := ⟨_, rfl⟩
  rw [← hS] at hlen hok HRo HSy HRe HIs
  have HY : Hid (unitsR S = true ∧ 0 ≤ e0 ∧ e0 < (S.length : Int)) := Lib.hid (by rw [hlen]; exact hok)
  have HLn := Lib.hid hlen
  have HSe := Lib.hid hS
  have HN2 := Lib.hid hn2
  obtain ⟨t, ht⟩ : ∃ t : Nat, e0 = (t : Int) := ⟨e0.toNat, by omega⟩
  subst ht
  have htn : (t : Int) < (un : Int) := hok.2.2
  have t00 : ((un : Int) != (un : Int)) = false := by simp
  clear hs hno hg hb hT hlen hun hok he hS hn2
  go_enter Tryz.func12, Tryz.ntmps12
  go_wp2_with fail
  refine (HBg.out _ HB.out).mono ?_
  rintro e u ⟨r, rfl, hb⟩
  replace HB := Lib.hid (after HB.out hb)
  clear hb
  cases r
  rotate_left
  · go_wp2
    go_ret
    exact ⟨rfl, HB.out⟩
  go_wp2_with fail
  refine (HSy.out _ HB.out).mono ?_
  rintro e u2 ⟨j, Z, la, lc, aa, ac, hfx, rfl, hz, hl, ha, hb⟩
  replace HB := Lib.hid (after HB.out hb)
  obtain ⟨ins, hins⟩ : ∃ x, x = inS S (t : Int) := ⟨_, rfl⟩
  rw [← hins] at hfx hz hl ha ⊢
  obtain ⟨rep, hrep⟩ : ∃ x, x = endL ins (foldN S ins j) := ⟨_, rfl⟩
  rw [← hrep] at hz hl ha ⊢
  have hil : ins.length = S.length := by rw [hins]; exact inS_len _ _
  have hrl : rep.length = S.length := by rw [hrep, endL_len, foldN_len]
  have hsf := stand_few (S := S) (rep := rep) (by rw [hrl, HLn.out]; exact HN2.out)
  obtain ⟨ln, hln⟩ : ∃ x, x = (standL S rep).length := ⟨_, rfl⟩
  have HIq : Hid (IsQ S rep ((standL S rep).map Int.ofNat) (alignL S rep)) := Lib.hid (by
    have h1 := left_reps (R := rootZ S (t : Int)) (j := j) HY.out.1 (reachB_len _ _) (by rw [hins] at hfx; exact hfx)
    have h2 := left_lead (R := rootZ S (t : Int)) (j := j) HY.out.1 (roots_in S _) (by rw [hins] at hfx; exact hfx)
    rw [hrep, hins]
    exact ⟨HY.out.1, h1, h2, rfl, rfl⟩)
  have HRow : Hid (∀ i, i < un → ∃ (s : Sc) (b : Bool) (v : Int), S[i]? = some s ∧ ins[i]? = some b ∧ rep[i]? = some v ∧ ((b = true ∧ 0 ≤ v ∧ (s.kind = 1 ∨ v = (i : Int))) ∨ (b = false ∧ v < 0 ∧ s.keep = false))) := Lib.hid (fun i hi => by
    have hi2 : i < S.length := by rw [HLn.out]; exact hi
    obtain ⟨b, hb⟩ : ∃ b, ins[i]? = some b := ⟨_, List.getElem?_eq_getElem (by rw [hil]; exact hi2)⟩
    obtain ⟨v, hv, hiff, -⟩ := left_iff (j := j) hil hi2
    rw [← hrep] at hv
    refine ⟨S[i], b, v, List.getElem?_eq_getElem hi2, hb, hv, ?_⟩
    cases b
    · right
      refine ⟨rfl, ?_, ?_⟩
      · have : ¬ 0 ≤ v := fun h => by have := hiff.1 h; rw [hb] at this; cases this
        omega
      · cases hk : S[i].keep
        · rfl
        · have := inS_keep (e := (t : Int)) (List.getElem?_eq_getElem hi2) (.inl hk)
          rw [← hins, hb] at this; cases this
    · left
      refine ⟨rfl, hiff.2 hb, ?_⟩
      by_cases hk : S[i].kind = 1
      · exact .inl hk
      · right
        have := left_kind (j := j) (List.getElem?_eq_getElem hi2) hb hk
        rw [← hrep, hv] at this
        exact Option.some.inj this)
  have HEn : Hid (∃ v : Int, rep[t]? = some v ∧ 0 ≤ v) := Lib.hid (by
    have ht2 : t < S.length := by rw [HLn.out]; omega
    obtain ⟨v, hv, hiff, -⟩ := left_iff (j := j) hil ht2
    rw [← hrep] at hv
    refine ⟨v, hv, hiff.2 ?_⟩
    rw [hins]
    exact inS_keep (List.getElem?_eq_getElem ht2) (.inr rfl))
  have HIe := Lib.hid hins
  have HIl := Lib.hid hil
  have HZ := Lib.hid hz
  have HZs : Hid (SL enZ 1 u2 u2.heap.size (some ⟨Z, 0, none⟩) un rep) := Lib.hid (by have := rb_slI hz; rw [hrl, HLn.out] at this; exact this)
  rw [← hln] at hl ha ⊢
  have HLs := Lib.hid hl
  have HAs := Lib.hid ha
  have HLm : Hid (ln ≤ maxLen) := Lib.hid (by rw [hln]; unfold maxLen; omega)
  obtain ⟨K, hK⟩ : ∃ x, x = u2.heap.size := ⟨_, rfl⟩
  obtain ⟨V1, hV1⟩ : ∃ x, x = u2.alloc (.cells #[.slice (some ⟨Z, 0, none⟩) un un, .slice la ln lc, .slice aa ln ac] 84) := ⟨_, rfl⟩
  have hbv : Below u2.heap.size u2 V1 := by rw [hV1]; exact lit_below _ _
  have HRK : Hid (RB V1 K #[.slice (some ⟨Z, 0, none⟩) un un, .slice la ln lc, .slice aa ln ac] 84) := Lib.hid (by rw [hV1, hK]; exact rb_new _ _ _)
  replace HB := Lib.hid (after HB.out hbv)
  replace HZ := Lib.hid (HZ.out.next hbv)
  replace HZs := Lib.hid (HZs.out.next hbv)
  replace HLs := Lib.hid (HLs.out.next hbv)
  replace HAs := Lib.hid (HAs.out.next hbv)
  have HVE : Hid (u2.alloc (.cells #[.slice (some ⟨Z, 0, none⟩) un un, .slice la ln lc, .slice aa ln ac] 84) = V1) := Lib.hid hV1.symm
  have HKe := Lib.hid hK
  clear hV1 hbv hK hz hl ha hb hfx hins hrep hil hrl hsf hln HSy
  go_wp2_with fail
  rw [HVE.out, ← HKe.out]
  refine (HRo.out _ HB.out).mono ?_
  intro e u3 hro
  unfold RootsR at hro
  rw [if_pos HY.out] at hro
  obtain ⟨ra, rc, rfl, hoo, hb⟩ := hro
  replace HB := Lib.hid (after HB.out hb)
  replace HRK := Lib.hid (HRK.out.next hb)
  replace HZ := Lib.hid (HZ.out.next hb)
  replace HZs := Lib.hid (HZs.out.next hb)
  replace HLs := Lib.hid (HLs.out.next hb)
  replace HAs := Lib.hid (HAs.out.next hb)
  have HSz := Lib.hid (owns_slN hoo)
  have HRn : Hid ((rootsN 0 (t : Int) S).length ≤ 1000000) := Lib.hid (by have h1 := rootsN_few S 0 (t : Int); have h2 := HLn.out; have h3 := HN2.out; omega)
  have HRi : Hid (unitsR S = true ∧ rootsB (rootZ S (t : Int)) S.length = true) := Lib.hid ⟨HY.out.1, roots_in S _⟩
  obtain ⟨rn, hrn⟩ : ∃ x, x = (rootsN 0 (t : Int) S).length := ⟨_, rfl⟩
  rw [← hrn] at HSz HRn ⊢
  clear hoo hb hrn
  go_wp2_with fail
  refine (HRe.out u3 ra rc rn (rootZ S (t : Int)) HB.out HSz.out HRn.out).mono ?_
  intro e u4 hre
  unfold ReachR at hre
  rw [if_pos HRi.out] at hre
  obtain ⟨g, rfl, hrb, -, hb⟩ := hre
  replace HB := Lib.hid (after HB.out hb)
  replace HRK := Lib.hid (HRK.out.next hb)
  replace HZ := Lib.hid (HZ.out.next hb)
  replace HZs := Lib.hid (HZs.out.next hb)
  replace HLs := Lib.hid (HLs.out.next hb)
  replace HAs := Lib.hid (HAs.out.next hb)
  have HG : Hid (RB u4 g (blA ins) 4) := Lib.hid (by rw [HIe.out]; exact hrb)
  rw [HLn.out]
  clear hb hrb HSz HRn HRe HRo
  have x0 : u4.cell? ⟨K, 0, none⟩ = some (.slice (some ⟨Z, 0, none⟩) un un) := HRK.out.cell
  have x1 : u4.cell? ⟨K, 1, none⟩ = some (.slice la ln lc) := HRK.out.cell
  have x2 : u4.cell? ⟨K, 2, none⟩ = some (.slice aa ln ac) := HRK.out.cell
  go_wp2_with fail
  clear x0 x1 x2
  refine (HIs.out u4 Z un la ln lc aa ln ac rep _ _ HB.out HZs.out HLs.out HAs.out HLm.out HLm.out).mono ?_
  rintro e u5 ⟨r, rfl, hr, hb⟩
  have hrt : r = true := hr.2 HIq.out
  subst hrt
  replace HB := Lib.hid (after HB.out hb)
  replace HRK := Lib.hid (HRK.out.next hb)
  replace HZ := Lib.hid (HZ.out.next hb)
  replace HG := Lib.hid (HG.out.next hb)
  clear hb hr HZs HLs HAs HIs
  have x0 : u5.cell? ⟨K, 0, none⟩ = some (.slice (some ⟨Z, 0, none⟩) un un) := HRK.out.cell
  go_wp2_with fail
  go_loopw [11] (fun i wr => ∃ (k : Nat) (wx : World), wx = wr ∧ k ≤ un ∧ i = .int .i64 k ∧ Hid (Below u5.heap.size u5 wx)) (fun i _ => un - (intOf i).toNat)
  case atStart => exact ⟨0, _, rfl, by omega, rfl, Lib.hid (Below.refl _ _)⟩
  case round =>
    clear x0
    obtain ⟨k, wx, rfl, hk, rfl, HK⟩ := hrel
    have x0 : wx.cell? ⟨K, 0, none⟩ = some (.slice (some ⟨Z, 0, none⟩) un un) := (HRK.out.next HK.out).cell
    by_cases hlt : k < un
    · have hlti : (k : Int) < (un : Int) := by omega
      have HLT := Lib.hid hlt
      have hul := HUn.out wx (after HB.out HK.out)
      obtain ⟨mi, hmi⟩ : ∃ x, L[k]? = some x := ⟨_, List.getElem?_eq_getElem (by rw [← HUl.out]; exact hlt)⟩
      obtain ⟨ub, uo, hua, -, -⟩ := hul.cells (by intro e; rw [e] at hmi; cases hmi)
      subst hua
      obtain ⟨-, y1, y2, -, -, -⟩ := unit_cells hul (Below.refl _ _) hmi
      obtain ⟨s, b, v, hs, hbi, hv, hcs⟩ := HRow.out k hlt
      have hsm : s = mi.sc := by
        rw [HSe.out, List.getElem?_map, hmi] at hs
        exact (Option.some.inj hs).symm
      have g0 : wx.cell? ⟨g, k, none⟩ = some (.bool b) := by rw [(HG.out.next HK.out).cell]; exact blA_get hbi
      have z0 : wx.cell? ⟨Z, k, none⟩ = some (.int .i64 v) := by rw [(HZ.out.next HK.out).cell]; exact inA_get hv
      rw [hsm] at hcs
      obtain ⟨kd, hkd⟩ : ∃ z, z = mi.sc.kind := ⟨_, rfl⟩
      obtain ⟨kp, hkp⟩ : ∃ z, z = mi.sc.keep := ⟨_, rfl⟩
      rw [← hkd, ← hkp] at hcs
      rw [← hkd] at y1
      rw [← hkp] at y2
      clear hul hmi hs hbi hv hsm hkd hkp hlt hk
      have hcs2 : (b = true ∧ 0 ≤ v ∧ kd = 1) ∨ (b = true ∧ 0 ≤ v ∧ kd ≠ 1 ∧ v = (k : Int)) ∨ (b = false ∧ v < 0 ∧ kp = false ∧ kd = 1) ∨ (b = false ∧ v < 0 ∧ kp = false ∧ kd ≠ 1) := by
        by_cases hk1 : kd = 1
        · rcases hcs with ⟨h1, h2, -⟩ | ⟨h1, h2, h3⟩
          · exact .inl ⟨h1, h2, hk1⟩
          · exact .inr (.inr (.inl ⟨h1, h2, h3, hk1⟩))
        · rcases hcs with ⟨h1, h2, h3 | h3⟩ | ⟨h1, h2, h3⟩
          · exact absurd h3 hk1
          · exact .inr (.inl ⟨h1, h2, hk1, h3⟩)
          · exact .inr (.inr (.inr ⟨h1, h2, h3, hk1⟩))
      clear hcs
      rcases hcs2 with ⟨rfl, h2, rfl⟩ | ⟨rfl, h2, h3, h4⟩ | ⟨rfl, h2, rfl, rfl⟩ | ⟨rfl, h2, rfl, h3⟩
      · cases kp
        all_goals
          go_wp2
          have e1 : (0 : Int) ≤ v := h2
          have e2 : ¬ v < 0 := by omega
          go_big_quiet (fail)
          go_wp2
          go_roundw
          case rel => exact ⟨k + 1, _, rfl, by have := HLT.out; omega, by go_num, Lib.hid (below_drewN HK.out _)⟩
          case measure => have := HLT.out; simp [intOf]; omega
      · have t1 : (kd != 1) = true := by simp [h3]
        have t2 : (v != (k : Int)) = false := by simp [h4]
        clear h3 h4
        cases kp
        all_goals
          go_wp2
          have e1 : (0 : Int) ≤ v := h2
          have e2 : ¬ v < 0 := by omega
          go_big_quiet (fail)
          go_wp2
          go_roundw
          case rel => exact ⟨k + 1, _, rfl, by have := HLT.out; omega, by go_num, Lib.hid (below_drewN HK.out _)⟩
          case measure => have := HLT.out; simp [intOf]; omega
      · go_wp2
        have e1 : ¬ (0 : Int) ≤ v := by omega
        have e2 : v < 0 := by omega
        go_big_quiet (fail)
        go_wp2
        go_roundw
        case rel => exact ⟨k + 1, _, rfl, by have := HLT.out; omega, by go_num, Lib.hid (below_drewN HK.out _)⟩
        case measure => have := HLT.out; simp [intOf]; omega
      · have t1 : (kd != 1) = true := by simp [h3]
        clear h3
        go_wp2
        have e1 : ¬ (0 : Int) ≤ v := by omega
        have e2 : v < 0 := by omega
        go_big_quiet (fail)
        go_wp2
        go_roundw
        case rel => exact ⟨k + 1, _, rfl, by have := HLT.out; omega, by go_num, Lib.hid (below_drewN HK.out _)⟩
        case measure => have := HLT.out; simp [intOf]; omega
    · have hlti : ¬ (k : Int) < (un : Int) := by omega
      have HB2 := Lib.hid (after HB.out HK.out)
      have HRK2 := Lib.hid (HRK.out.next HK.out)
      have HZ2 := Lib.hid (HZ.out.next HK.out)
      clear hk hlt HK x0
      go_wp2_with fail
      refine (HSk.out _ HB2.out).mono ?_
      rintro e u6 ⟨rfl, hb⟩
      replace HB2 := Lib.hid (after HB2.out hb)
      have x0 : u6.cell? ⟨K, 0, none⟩ = some (.slice (some ⟨Z, 0, none⟩) un un) := (HRK2.out.next hb).cell
      obtain ⟨v, hv, hv0⟩ := HEn.out
      have z0 : u6.cell? ⟨Z, t, none⟩ = some (.int .i64 v) := by rw [(HZ2.out.next hb).cell]; exact inA_get hv
      have e2 : ¬ v < 0 := by omega
      clear hb hv
      go_wp2
      go_ret
      exact ⟨rfl, HB2.out⟩
end Go.Proofs.YtfnakgipamjdnaaGreatDoor
