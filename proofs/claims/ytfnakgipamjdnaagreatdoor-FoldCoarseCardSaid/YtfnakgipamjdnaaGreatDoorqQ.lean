/- fold's laws: FoldGood, FoldCoarse. -/
import Derived.Test.YtfnakgipamjdnaaGreatDoorqP

namespace Go.Proofs.YtfnakgipamjdnaaGreatDoor
set_option linter.unusedVariables false
set_option linter.unusedSimpArgs false
open Go.ChangeShapes Go.WideShapes Go.Deep Go.RowKit

set_option maxRecDepth 100000 in
set_option maxHeartbeats 4000000 in
theorem FoldGood_walk (w : World) (ua : Option Addr) (un uc : Nat) (L : List Ms) (hun : un ≤ maxLen) (hs : SL msC 6 w w.heap.size ua un L) (hno : Notes w w.heap.size L) (hg : ∀ m ∈ L, GoodSc m.sc) (hb : ∀ m ∈ L, m.sc.rels.length * 32 ≤ reachBytes)
    (ia : Option Addr) (m ic : Nat) (ins : List Bool) (hm : m ≤ maxLen) (hi : SL enB 1 w w.heap.size ia m ins) (hiz : ia = none → m = 0 ∧ ic = 0) (hT : TabP w) :
    Calls Tryz.prog 8 #[.slice ua un uc, .slice ia m ic] w (RetB (.bool true) w) := by
  have hlen : (L.map (·.sc)).length = un := by rw [List.length_map]; exact hs.len.symm
  have hni : (un : Int) ≤ 9223372036854775807 := by unfold maxLen at hun; omega
  have hmi : (m : Int) ≤ 9223372036854775807 := by unfold maxLen at hm; omega
  have HBg : Hid (∀ u, Below w.heap.size w u → Calls Tryz.prog 36 #[.slice ua un uc] u (BoolP u)) := Lib.hid fun u hu => rBigU_any ua un uc L u hun (hs.next hu) (hno.next hu) hb
  have HFd : Hid (∀ u, Below w.heap.size w u → Calls Tryz.prog 55 #[] u (RetB (.bool true) u)) := Lib.hid fun u hu => folded_is u (hT.next hu)
  have HIs : Hid (∀ u, Below w.heap.size w u → Calls Tryz.prog 43 #[.slice ua un uc] u (RetB (.bool (unitsR (L.map (·.sc)))) u)) := Lib.hid fun u hu => gIs_any ua un uc L u hun (hs.next hu) (hno.next hu) hg hb (hT.next hu)
  have HB : Hid (Below w.heap.size w w) := Lib.hid (Below.refl _ w)
  by_cases hok : m = un ∧ unitsR (L.map (·.sc)) = true
  rotate_left
  · have hor : m ≠ un ∨ unitsR (L.map (·.sc)) = false := by
      by_cases e : m = un
      · right
        cases hr : unitsR (L.map (·.sc))
        · rfl
        · exact absurd ⟨e, hr⟩ hok
      · exact .inl e
    have HFn : Hid (∀ u, Below w.heap.size w u → Calls Tryz.prog 51 #[.slice ua un uc, .slice ia m ic] u (RetB (.tuple #[.slice none 0 0, .int .i64 1]) u)) := Lib.hid fun u hu => fold_no u ua un uc L ia m ic hun hm (hs.next hu) (hno.next hu) hg hb (hT.next hu) hor
    have hcs : unitsR (L.map (·.sc)) = false ∨ (unitsR (L.map (·.sc)) = true ∧ m ≠ un) := by
      cases hr : unitsR (L.map (·.sc))
      · exact .inl rfl
      · exact .inr ⟨rfl, fun e => hok ⟨e, hr⟩⟩
    clear hs hno hg hb hT hlen hun hi hiz hm hok hor
    have hm3 : (300 : Int) < (m : Int) ∨ ¬ (300 : Int) < (m : Int) := by omega
    have hz0 : ((m : Int) != (un : Int)) = true ∨ ((m : Int) != (un : Int)) = false := by cases h : ((m : Int) != (un : Int)) <;> simp
    go_enter Tryz.func8, Tryz.ntmps8
    go_wp2_with fail
    refine (HBg.out _ HB.out).mono ?_
    rintro e u ⟨r, rfl, hb⟩
    replace HB := Lib.hid (after HB.out hb)
    clear hb
    cases r
    rotate_left
    · go_wp2
      go_ret
      exact ⟨rfl, HB.out⟩
    rcases hm3 with hm3 | hm3
    · go_wp2
      go_ret
      exact ⟨rfl, HB.out⟩
    go_wp2_with fail
    refine (HFn.out _ HB.out).mono ?_
    rintro e u2 ⟨rfl, hb⟩
    replace HB := Lib.hid (after HB.out hb)
    clear hb
    go_wp2_with fail
    refine (HFd.out _ HB.out).mono ?_
    rintro e u3 ⟨rfl, hb⟩
    replace HB := Lib.hid (after HB.out hb)
    clear hb
    go_wp2_with fail
    refine (HIs.out _ HB.out).mono ?_
    rintro e u4 ⟨rfl, hb⟩
    replace HB := Lib.hid (after HB.out hb)
    clear hb
    rcases hcs with hcs | ⟨hcs, hne⟩
    · rw [hcs]
      go_wp2
      go_ret
      exact ⟨rfl, HB.out⟩
    · have t1 : ((m : Int) != (un : Int)) = true := by rw [bne_iff_ne]; omega
      have t2 : ((m : Int) == (un : Int)) = false := by simp; omega
      rw [hcs]
      clear hne hz0
      go_wp2
      go_ret
      exact ⟨rfl, HB.out⟩
  obtain ⟨rfl, hu⟩ := hok
  have HFy : Hid (∀ u, Below w.heap.size w u → Calls Tryz.prog 51 #[.slice ua m uc, .slice ia m ic] u (FoldP (L.map (·.sc)) ins m u)) := Lib.hid fun u hk => fold_yes u ua m uc L ia ic ins hm (hs.next hk) (hno.next hk) hg hb (hi.next hk) (hT.next hk) hu
  have HGd : Hid (∀ u (Z lc : Nat) (l : List Int), Below w.heap.size w u → SL enZ 1 u u.heap.size (some ⟨Z, 0, none⟩) m l → Calls Tryz.prog 58 #[.slice ua m uc, .slice ia m ic, .slice (some ⟨Z, 0, none⟩) m lc] u (GoodP (L.map (·.sc)) ins l u)) := Lib.hid fun u Z lc l hk hl => good_any u ua m uc L ia ic ins (some ⟨Z, 0, none⟩) lc l (hs.next hk) (hno.next hk) (hi.next hk) hl hu
  obtain ⟨S, hS⟩ : ∃ S, S = L.map (·.sc) := ⟨_, rfl⟩
  have hn2 : m ≤ 256 := by have := units_len hu; rw [hlen] at this; exact this
  have hm3 : ¬ (300 : Int) < (m : Int) := by omega
  have HUn := Lib.hid hu
  have HLn := Lib.hid hlen
  have HIl : Hid (ins.length = m) := Lib.hid hi.len.symm
  have HIn := Lib.hid (fun u (hu : Below w.heap.size w u) => hi.next hu)
  have t0 : ((m : Int) != (m : Int)) = false := by simp
  have t00 : ((m : Int) == (m : Int)) = true := by simp
  rw [← hS] at HFy HGd HUn HLn
  clear hs hno hg hb hT hlen hun hi hiz hm hu hn2 HIs hS
  go_enter Tryz.func8, Tryz.ntmps8
  go_wp2_with fail
  refine (HBg.out _ HB.out).mono ?_
  rintro e u ⟨r, rfl, hb⟩
  replace HB := Lib.hid (after HB.out hb)
  clear hb
  cases r
  rotate_left
  · go_wp2
    go_ret
    exact ⟨rfl, HB.out⟩
  go_wp2_with fail
  refine (HFy.out _ HB.out).mono ?_
  rintro e u2 ⟨j, Z, hfx, rfl, hr, hb⟩
  replace HB := Lib.hid (after HB.out hb)
  obtain ⟨l, hl⟩ : ∃ l, l = endL ins (foldN S ins j) := ⟨_, rfl⟩
  rw [← hl] at hr
  have hll : l.length = m := by rw [hl, endL_len, foldN_len]; exact HLn.out
  have HLl := Lib.hid hll
  have HR := Lib.hid hr
  have HOut : Hid (∀ k, k < m → ins[k]? = some false → l[k]? = some (-1)) := Lib.hid (fun k hk h => by rw [hl]; exact end_out (by rw [HLn.out]; exact hk) h)
  have HLea : Hid (∀ k, k < m → ins[k]? = some true → ∃ p : Nat, l[k]? = some (p : Int) ∧ p ≤ k ∧ ins[p]? = some true ∧ l[p]? = some (p : Int)) := Lib.hid (fun k hk h => by rw [hl]; exact end_least (by rw [HLn.out]; exact hk) h)
  have HGo : Hid (GoodQ S ins l) := Lib.hid (by rw [hl]; exact end_good HUn.out (by rw [HIl.out, HLn.out]) hfx)
  clear hr hb hl hll hfx HFy HBg
  go_wp2_with fail
  go_loopw [7] (fun i wr => ∃ (k : Nat) (wx : World), wx = wr ∧ k ≤ m ∧ i = .int .i64 k ∧ Hid (Below u2.heap.size u2 wx)) (fun i _ => m - (intOf i).toNat)
  case atStart => exact ⟨0, _, rfl, by omega, rfl, Lib.hid (Below.refl _ _)⟩
  case round =>
    obtain ⟨k, wx, rfl, hk, rfl, HK⟩ := hrel
    by_cases hlt : k < m
    · have hlti : (k : Int) < (m : Int) := by omega
      have HLT := Lib.hid hlt
      have hkk := after HB.out HK.out
      have hsl := HIn.out wx hkk
      have hkI : k < ins.length := by rw [HIl.out]; exact hlt
      obtain ⟨ib, io, hia, -, -⟩ := hsl.cells (by intro e; rw [e] at hkI; simp at hkI)
      subst hia
      obtain ⟨b, hbk⟩ : ∃ b, ins[k]? = some b := ⟨_, List.getElem?_eq_getElem hkI⟩
      have i0 : wx.cell? ⟨ib, io + k, none⟩ = some (.bool b) := bools_cells hsl (Below.refl _ _) hbk
      cases b
      · have z0 : wx.cell? ⟨Z, k, none⟩ = some (.int .i64 (-1)) := by rw [(HR.out.next HK.out).cell]; exact inA_get (HOut.out k hlt hbk)
        clear hkk hsl hkI hbk hlt hk
        go_wp2
        go_roundw
        case rel => exact ⟨k + 1, _, rfl, by have := HLT.out; omega, by go_num, HK⟩
        case measure => have := HLT.out; simp [intOf]; omega
      · obtain ⟨p, h1, h2, h3, h4⟩ := HLea.out k hlt hbk
        have z0 : wx.cell? ⟨Z, k, none⟩ = some (.int .i64 (p : Int)) := by rw [(HR.out.next HK.out).cell]; exact inA_get h1
        have z1 : wx.cell? ⟨Z, p, none⟩ = some (.int .i64 (p : Int)) := by rw [(HR.out.next HK.out).cell]; exact inA_get h4
        have i1 : wx.cell? ⟨ib, io + p, none⟩ = some (.bool true) := bools_cells hsl (Below.refl _ _) h3
        have p0 : ¬ (p : Int) < 0 := by omega
        have p1 : ¬ (k : Int) < (p : Int) := by omega
        have p2 : (p : Int) < (m : Int) := by omega
        have p3 : ((p : Int) != (p : Int)) = false := by simp
        have p4 : ((p : Int) == (p : Int)) = true := by simp
        have p5 : (p : Int) ≤ (k : Int) := by omega
        have p6 : p ≤ k := h2
        have p7 : ¬ k < p := by omega
        have p8 : p < m := by omega
        clear hkk hsl hkI hbk hlt hk h1 h2 h3 h4
        go_wp2
        have e1 : ¬ (p : Int) < 0 := by omega
        have e2 : ¬ (k : Int) < (p : Int) := by omega
        go_big_quiet (fail)
        go_wp2
        go_roundw
        case rel => exact ⟨k + 1, _, rfl, by have := HLT.out; omega, by go_num, Lib.hid (below_drewN HK.out _)⟩
        case measure => have := HLT.out; simp [intOf]; omega
    · have hlti : ¬ (k : Int) < (m : Int) := by omega
      have HB2 := Lib.hid (after HB.out HK.out)
      have HR2 := Lib.hid (HR.out.next HK.out)
      clear hk hlt HK
      go_wp2_with fail
      refine (HFd.out _ HB2.out).mono ?_
      rintro e u3 ⟨rfl, hb⟩
      replace HB2 := Lib.hid (after HB2.out hb)
      replace HR2 := Lib.hid (HR2.out.next hb)
      clear hb
      have HSz : Hid (SL enZ 1 u3 u3.heap.size (some ⟨Z, 0, none⟩) m l) := Lib.hid (by have := rb_slI HR2.out; rw [HLl.out] at this; exact this)
      go_wp2_with fail
      refine (HGd.out _ Z m l HB2.out HSz.out).mono ?_
      rintro e u4 ⟨r, rfl, hr, hb⟩
      have hrt : r = true := hr.2 HGo.out
      subst hrt
      replace HB2 := Lib.hid (after HB2.out hb)
      clear hb hr
      go_wp2
      go_ret
      exact ⟨rfl, HB2.out⟩
set_option maxRecDepth 100000 in
set_option maxHeartbeats 4000000 in
theorem FoldCoarse_walk (w : World) (ua : Option Addr) (un uc : Nat) (L : List Ms) (hun : un ≤ maxLen) (hs : SL msC 6 w w.heap.size ua un L) (hno : Notes w w.heap.size L) (hg : ∀ m ∈ L, GoodSc m.sc) (hb : ∀ m ∈ L, m.sc.rels.length * 32 ≤ reachBytes)
    (ia : Option Addr) (m ic : Nat) (ins : List Bool) (hm : m ≤ maxLen) (hi : SL enB 1 w w.heap.size ia m ins) (hiz : ia = none → m = 0 ∧ ic = 0)
    (qa : Option Addr) (qn qc : Nat) (Q : List Int) (hqn : qn ≤ maxLen) (hq : SL enZ 1 w w.heap.size qa qn Q) (hqz : qa = none → qn = 0 ∧ qc = 0) (hqw : qn * 8 ≤ reachBytes) (hT : TabP w) :
    Calls Tryz.prog 9 #[.slice ua un uc, .slice ia m ic, .slice qa qn qc] w (RetB (.bool true) w) := by
  have hlen : (L.map (·.sc)).length = un := by rw [List.length_map]; exact hs.len.symm
  have hni : (un : Int) ≤ 9223372036854775807 := by unfold maxLen at hun; omega
  have hmi : (m : Int) ≤ 9223372036854775807 := by unfold maxLen at hm; omega
  have hqi : (qn : Int) ≤ 9223372036854775807 := by unfold maxLen at hqn; omega
  have HBg : Hid (∀ u, Below w.heap.size w u → Calls Tryz.prog 36 #[.slice ua un uc] u (BoolP u)) := Lib.hid fun u hu => rBigU_any ua un uc L u hun (hs.next hu) (hno.next hu) hb
  have HFd : Hid (∀ u, Below w.heap.size w u → Calls Tryz.prog 55 #[] u (RetB (.bool true) u)) := Lib.hid fun u hu => folded_is u (hT.next hu)
  have HB : Hid (Below w.heap.size w w) := Lib.hid (Below.refl _ w)
  have hm3 : (300 : Int) < (m : Int) ∨ ¬ (300 : Int) < (m : Int) := by omega
  have hq3 : (300 : Int) < (qn : Int) ∨ ¬ (300 : Int) < (qn : Int) := by omega
  by_cases hok : m = un ∧ unitsR (L.map (·.sc)) = true
  rotate_left
  · have hor : m ≠ un ∨ unitsR (L.map (·.sc)) = false := by
      by_cases e : m = un
      · right
        cases hr : unitsR (L.map (·.sc))
        · rfl
        · exact absurd ⟨e, hr⟩ hok
      · exact .inl e
    have HFn : Hid (∀ u, Below w.heap.size w u → Calls Tryz.prog 51 #[.slice ua un uc, .slice ia m ic] u (RetB (.tuple #[.slice none 0 0, .int .i64 1]) u)) := Lib.hid fun u hu => fold_no u ua un uc L ia m ic hun hm (hs.next hu) (hno.next hu) hg hb (hT.next hu) hor
    clear hs hno hg hb hT hlen hun hi hiz hm hok hor hq hqz hqw hqn
    go_enter Tryz.func9, Tryz.ntmps9
    go_wp2_with fail
    refine (HBg.out _ HB.out).mono ?_
    rintro e u ⟨r, rfl, hb⟩
    replace HB := Lib.hid (after HB.out hb)
    clear hb
    cases r
    rotate_left
    · go_wp2
      go_ret
      exact ⟨rfl, HB.out⟩
    rcases hm3 with hm3 | hm3
    · go_wp2
      go_ret
      exact ⟨rfl, HB.out⟩
    rcases hq3 with hq3 | hq3
    · go_wp2
      go_ret
      exact ⟨rfl, HB.out⟩
    go_wp2_with fail
    refine (HFn.out _ HB.out).mono ?_
    rintro e u2 ⟨rfl, hb⟩
    replace HB := Lib.hid (after HB.out hb)
    clear hb
    go_wp2_with fail
    refine (HFd.out _ HB.out).mono ?_
    rintro e u3 ⟨rfl, hb⟩
    replace HB := Lib.hid (after HB.out hb)
    clear hb
    go_wp2
    go_ret
    exact ⟨rfl, HB.out⟩
  obtain ⟨rfl, hu⟩ := hok
  have HFy : Hid (∀ u, Below w.heap.size w u → Calls Tryz.prog 51 #[.slice ua m uc, .slice ia m ic] u (FoldP (L.map (·.sc)) ins m u)) := Lib.hid fun u hk => fold_yes u ua m uc L ia ic ins hm (hs.next hk) (hno.next hk) hg hb (hi.next hk) (hT.next hk) hu
  have HGd : Hid (qn = m → ∀ u, Below w.heap.size w u → Calls Tryz.prog 58 #[.slice ua m uc, .slice ia m ic, .slice qa m qc] u (GoodP (L.map (·.sc)) ins Q u)) := Lib.hid fun e u hk => by
    subst e
    exact good_any u ua qn uc L ia ic ins qa qc Q (hs.next hk) (hno.next hk) (hi.next hk) (hq.next hk) hu
  obtain ⟨S, hS⟩ : ∃ S, S = L.map (·.sc) := ⟨_, rfl⟩
  have hn2 : m ≤ 256 := by have := units_len hu; rw [hlen] at this; exact this
  have hm4 : ¬ (300 : Int) < (m : Int) := by omega
  have HUn := Lib.hid hu
  have HLn := Lib.hid hlen
  have HIl : Hid (ins.length = m) := Lib.hid hi.len.symm
  have HQl : Hid (Q.length = qn) := Lib.hid hq.len.symm
  have HIn := Lib.hid (fun u (hu : Below w.heap.size w u) => hi.next hu)
  have HQn := Lib.hid (fun u (hu : Below w.heap.size w u) => hq.next hu)
  have t0 : ((m : Int) != (m : Int)) = false := by simp
  have t00 : ((m : Int) == (m : Int)) = true := by simp
  rw [← hS] at HFy HGd HUn HLn
  clear hs hno hg hb hT hlen hun hi hiz hm hu hn2 hS hq hqz hqw hqn hm3
  go_enter Tryz.func9, Tryz.ntmps9
  go_wp2_with fail
  refine (HBg.out _ HB.out).mono ?_
  rintro e u ⟨r, rfl, hb⟩
  replace HB := Lib.hid (after HB.out hb)
  clear hb
  cases r
  rotate_left
  · go_wp2
    go_ret
    exact ⟨rfl, HB.out⟩
  rcases hq3 with hq3 | hq3
  · go_wp2
    go_ret
    exact ⟨rfl, HB.out⟩
  go_wp2_with fail
  refine (HFy.out _ HB.out).mono ?_
  rintro e u2 ⟨j, Z, hfx, rfl, hr, hb⟩
  replace HB := Lib.hid (after HB.out hb)
  obtain ⟨l, hl⟩ : ∃ l, l = endL ins (foldN S ins j) := ⟨_, rfl⟩
  rw [← hl] at hr
  have hll : l.length = m := by rw [hl, endL_len, foldN_len]; exact HLn.out
  have HLl := Lib.hid hll
  have HR := Lib.hid hr
  have HFi : Hid (Q.length = m → GoodQ S ins Q → ∀ i k, i < m → k < i → ins[i]? = some true → ins[k]? = some true → Q[i]? = Q[k]? → l[i]? = l[k]?) := Lib.hid (fun hq hg i k hi hk h1 h2 h3 => by
    rw [hl]; exact good_finer (by rw [hq, HLn.out]) hg (by rw [HLn.out]; exact hi) hk h1 h2 h3)
  clear hr hb hl hll hfx HFy HBg
  by_cases hqm : qn = m
  rotate_left
  · have t1 : ((qn : Int) != (m : Int)) = true := by rw [bne_iff_ne]; omega
    have t2 : ((qn : Int) == (m : Int)) = false := by simp; omega
    clear hqm
    go_wp2_with fail
    refine (HFd.out _ HB.out).mono ?_
    rintro e u3 ⟨rfl, hb⟩
    replace HB := Lib.hid (after HB.out hb)
    clear hb
    go_wp2
    go_ret
    exact ⟨rfl, HB.out⟩
  replace HGd := Lib.hid (HGd.out hqm)
  subst hqm
  go_wp2_with fail
  refine (HGd.out _ HB.out).mono ?_
  rintro e u3 ⟨r, rfl, hrg, hb⟩
  replace HB := Lib.hid (after HB.out hb)
  replace HR := Lib.hid (HR.out.next hb)
  clear hb
  cases r
  · clear hrg
    go_wp2_with fail
    refine (HFd.out _ HB.out).mono ?_
    rintro e u4 ⟨rfl, hb⟩
    replace HB := Lib.hid (after HB.out hb)
    clear hb
    go_wp2
    go_ret
    exact ⟨rfl, HB.out⟩
  have HFj := Lib.hid (HFi.out HQl.out (hrg.1 rfl))
  clear hrg HFi HGd
  go_wp2_with fail
  go_loopw [9] (fun i wr => ∃ (k : Nat) (wx : World), wx = wr ∧ k ≤ qn ∧ i = .int .i64 k ∧ Hid (Below u3.heap.size u3 wx)) (fun i _ => qn - (intOf i).toNat)
  case atStart => exact ⟨0, _, rfl, by omega, rfl, Lib.hid (Below.refl _ _)⟩
  case round =>
    obtain ⟨i, wx, rfl, hi, rfl, HK⟩ := hrel
    by_cases hlt : i < qn
    · have hlti : (i : Int) < (qn : Int) := by omega
      have HLT := Lib.hid hlt
      clear hi hlt
      go_wp2
      go_loopw [10] (fun k wr => ∃ (j : Nat) (wx : World), wx = wr ∧ j ≤ i ∧ k = .int .i64 j ∧ Hid (Below u3.heap.size u3 wx)) (fun k _ => i - (intOf k).toNat)
      case atStart => exact ⟨0, _, rfl, by omega, rfl, HK⟩
      case round =>
        clear HK
        obtain ⟨k, wx, rfl, hk, rfl, HK⟩ := hrel
        by_cases hlk : k < i
        · have hlki : (k : Int) < (i : Int) := by omega
          have HLK := Lib.hid hlk
          have hlkn : (k : Int) < (qn : Int) := by omega
          have hkk := after HB.out HK.out
          have hsl := HIn.out wx hkk
          have hql := HQn.out wx hkk
          have hin := HLT.out
          obtain ⟨bi, hbi⟩ : ∃ b, ins[i]? = some b := ⟨_, List.getElem?_eq_getElem (by rw [HIl.out]; exact hin)⟩
          obtain ⟨bk, hbk⟩ : ∃ b, ins[k]? = some b := ⟨_, List.getElem?_eq_getElem (by rw [HIl.out]; omega)⟩
          obtain ⟨vi, hvi⟩ : ∃ b, Q[i]? = some b := ⟨_, List.getElem?_eq_getElem (by rw [HQl.out]; exact hin)⟩
          obtain ⟨vk, hvk⟩ : ∃ b, Q[k]? = some b := ⟨_, List.getElem?_eq_getElem (by rw [HQl.out]; omega)⟩
          obtain ⟨li, hli⟩ : ∃ b, l[i]? = some b := ⟨_, List.getElem?_eq_getElem (by rw [HLl.out]; exact hin)⟩
          obtain ⟨lk, hlk2⟩ : ∃ b, l[k]? = some b := ⟨_, List.getElem?_eq_getElem (by rw [HLl.out]; omega)⟩
          obtain ⟨ib, io, hia, -, -⟩ := hsl.cells (by intro e; rw [e] at hbk; cases hbk)
          obtain ⟨qb, qo, hqa, -, -⟩ := hql.cells (by intro e; rw [e] at hvk; cases hvk)
          subst hia
          subst hqa
          have i0 : wx.cell? ⟨ib, io + i, none⟩ = some (.bool bi) := bools_cells hsl (Below.refl _ _) hbi
          have i1 : wx.cell? ⟨ib, io + k, none⟩ = some (.bool bk) := bools_cells hsl (Below.refl _ _) hbk
          have q0 : wx.cell? ⟨qb, qo + i, none⟩ = some (.int .i64 vi) := ints_cells hql (Below.refl _ _) hvi
          have q1 : wx.cell? ⟨qb, qo + k, none⟩ = some (.int .i64 vk) := ints_cells hql (Below.refl _ _) hvk
          have z0 : wx.cell? ⟨Z, i, none⟩ = some (.int .i64 li) := by rw [(HR.out.next HK.out).cell]; exact inA_get hli
          have z1 : wx.cell? ⟨Z, k, none⟩ = some (.int .i64 lk) := by rw [(HR.out.next HK.out).cell]; exact inA_get hlk2
          have hcs : bi = false ∨ (bi = true ∧ bk = false) ∨ (bi = true ∧ bk = true ∧ vi ≠ vk) ∨ (bi = true ∧ bk = true ∧ vi = vk ∧ li = lk) := by
            cases bi
            · exact .inl rfl
            · cases bk
              · exact .inr (.inl ⟨rfl, rfl⟩)
              · by_cases e : vi = vk
                · refine .inr (.inr (.inr ⟨rfl, rfl, e, ?_⟩))
                  have := HFj.out i k hin hlk hbi hbk (by rw [hvi, hvk, e])
                  rw [hli, hlk2] at this
                  exact Option.some.inj this
                · exact .inr (.inr (.inl ⟨rfl, rfl, e⟩))
          clear hkk hsl hql hin hbi hbk hvi hvk hli hlk2 hlk hk
          rcases hcs with rfl | ⟨rfl, rfl⟩ | ⟨rfl, rfl, hne⟩ | ⟨rfl, rfl, rfl, rfl⟩
          · go_wp2
            go_quiet (fail)
            go_wp2
            go_roundw
            case rel => exact ⟨k + 1, _, rfl, by have := HLK.out; omega, by go_num, Lib.hid (below_drewN HK.out _)⟩
            case measure => have := HLK.out; simp [intOf]; omega
          · go_wp2
            go_quiet (fail)
            go_wp2
            go_roundw
            case rel => exact ⟨k + 1, _, rfl, by have := HLK.out; omega, by go_num, Lib.hid (below_drewN HK.out _)⟩
            case measure => have := HLK.out; simp [intOf]; omega
          · have t1 : (vi == vk) = false := by simp [hne]
            have t2 : (vi != vk) = true := by simp [hne]
            clear hne
            go_wp2
            go_quiet (fail)
            go_wp2
            go_roundw
            case rel => exact ⟨k + 1, _, rfl, by have := HLK.out; omega, by go_num, Lib.hid (below_drewN HK.out _)⟩
            case measure => have := HLK.out; simp [intOf]; omega
          · have t1 : (vi == vi) = true := by simp
            have t2 : (li != li) = false := by simp
            have t3 : (li == li) = true := by simp
            go_wp2
            go_quiet (fail)
            go_wp2
            go_roundw
            case rel => exact ⟨k + 1, _, rfl, by have := HLK.out; omega, by go_num, Lib.hid (below_drewN HK.out _)⟩
            case measure => have := HLK.out; simp [intOf]; omega
        · have hlki : ¬ (k : Int) < (i : Int) := by omega
          clear hlk hk
          go_wp2
          go_roundw
          case rel => exact ⟨i + 1, _, rfl, by have := HLT.out; omega, by go_num, HK⟩
          case measure => have := HLT.out; simp [intOf]; omega
    · have hlti : ¬ (i : Int) < (qn : Int) := by omega
      have HB2 := Lib.hid (after HB.out HK.out)
      clear hi hlt HK
      go_wp2_with fail
      refine (HFd.out _ HB2.out).mono ?_
      rintro e u4 ⟨rfl, hb⟩
      replace HB2 := Lib.hid (after HB2.out hb)
      clear hb
      go_wp2
      go_ret
      exact ⟨rfl, HB2.out⟩
end Go.Proofs.YtfnakgipamjdnaaGreatDoor
