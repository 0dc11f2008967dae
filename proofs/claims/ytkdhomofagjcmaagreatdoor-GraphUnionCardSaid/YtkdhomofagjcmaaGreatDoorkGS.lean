/- graph's law: GraphClosed. -/
import Derived.Test.YtkdhomofagjcmaaGreatDoorkGW
namespace Go.Proofs.YtkdhomofagjcmaaGreatDoor
set_option linter.unusedVariables false
set_option linter.unusedSimpArgs false
open Go.ChangeShapes Go.WideShapes Go.Deep Go.RowKit

/-- Two rows of bools, the one read, the other written. -/
structure CW (w wr : World) (g nb : Nat) (ins nd : List Bool) : Prop where
  kk : Below w.heap.size w wr
  gi : RB wr g (blA ins) 4
  ni : RB wr nb (blA nd) 4
  n0 : w.heap.size ≤ nb
  gn : g ≠ nb
theorem CW.set {w wr : World} {g nb : Nat} {ins nd : List Bool} (h : CW w wr g nb ins nd) (k : Nat) (b : Bool) : CW w (wr.setCell ⟨nb, k, none⟩ (.bool b)) g nb ins (nd.set k b) := by
  refine ⟨h.kk.setCell (p := ⟨nb, k, none⟩) h.n0 _, (hother h.gn).trans h.gi, ?_, h.n0, h.gn⟩
  have := h.ni.set (j := k) (.bool b)
  rwa [blA_set] at this
theorem CW.drew {w wr : World} {g nb : Nat} {ins nd : List Bool} (h : CW w wr g nb ins nd) : CW w wr.drew g nb ins nd := ⟨h.kk.drew, h.gi, h.ni, h.n0, h.gn⟩
theorem CW.start {w u : World} {g n : Nat} {ins : List Bool} (hb : Below w.heap.size w u) (h : RB u g (blA ins) 4) : CW w (u.alloc (.cells (blA (List.replicate n false)) 4)) g u.heap.size ins (List.replicate n false) :=
  ⟨hb.alloc hb.size _, (Below.heap_alloc _ _ _ (lt_of_block h)).trans h, (MapKept.heap_alloc u _).1, hb.size, Nat.ne_of_lt (lt_of_block h)⟩
theorem set_keep {nd : List Bool} {j k : Nat} (h : nd[j]? = some true) (b : Bool) (hb : nd[k]? = some true → b = true) : (nd.set k b)[j]? = some true := by
  by_cases e : k = j
  · subst e
    have hl : k < nd.length := by
      rcases Nat.lt_or_ge k nd.length with x | x
      · exact x
      · rw [List.getElem?_eq_none x] at h; cases h
    rw [List.getElem?_set_self hl, hb h]
  · rw [List.getElem?_set_ne e]; exact h
/-- Who is told to be needed, when the first some have been gone through. -/
structure Dn (Ls : List Sc) (R : List Int) (ins nd : List Bool) (i : Nat) : Prop where
  a : ∀ x ∈ R, nd[x.toNat]? = some true
  b : ∀ e, e < i → ins[e]? = some true → ∀ s, Ls[e]? = some s → ∀ r ∈ s.rels, r.sym.toNat ≠ e → nd[r.sym.toNat]? = some true
structure Dk (Ls : List Sc) (R : List Int) (ins nd : List Bool) (i : Nat) (rl : List Rl) (k : Nat) : Prop where
  d : Dn Ls R ins nd i
  c : ∀ r ∈ rl.take k, r.sym.toNat ≠ i → nd[r.sym.toNat]? = some true
theorem Dk.set {Ls : List Sc} {R : List Int} {ins nd : List Bool} {i k t : Nat} {rl : List Rl} {r : Rl} {b : Bool} (h : Dk Ls R ins nd i rl k) (hr : rl.take (k + 1) = rl.take k ++ [r]) (ht : r.sym = (t : Int)) (hl : t < nd.length) (hb : nd[t]? = some true → b = true) (hi : t ≠ i → b = true) : Dk Ls R ins (nd.set t b) i rl (k + 1) := by
  refine ⟨⟨fun x hx => set_keep (h.d.a x hx) b hb, fun e he hin s hs r hr hne => set_keep (h.d.b e he hin s hs r hr hne) b hb⟩, fun q hq hne => ?_⟩
  rw [hr, List.mem_append] at hq
  rcases hq with hq | hq
  · exact set_keep (h.c q hq hne) b hb
  · rw [List.mem_singleton.1 hq, ht, Int.toNat_natCast] at hne ⊢
    rw [List.getElem?_set_self hl, hi hne]
theorem Dk.all {Ls : List Sc} {R : List Int} {ins nd : List Bool} {i k : Nat} {s : Sc} (h : Dk Ls R ins nd i s.rels k) (hs : Ls[i]? = some s) (hk : s.rels.length ≤ k ∨ ins[i]? = some false) : Dn Ls R ins nd (i + 1) := by
  refine ⟨h.d.a, fun e he hin s' hs' r hr hne => ?_⟩
  rcases Nat.lt_or_ge e i with h1 | h1
  · exact h.d.b e h1 hin s' hs' r hr hne
  · have : e = i := by omega
    subst this
    rw [hs] at hs'
    cases hs'
    rcases hk with hk | hk
    · have := h.c r (by rw [List.take_of_length_le hk]; exact hr) hne
      exact this
    · rw [hk] at hin; cases hin
theorem Dn.all {Ls : List Sc} {R : List Int} {ins nd : List Bool} (hu : unitsR Ls = true) (hr : rootsB R Ls.length = true) (hin : ins = reachB Ls R) (h : Dn Ls R ins nd Ls.length) {i : Nat} (hi : i < Ls.length) (h1 : ins[i]? = some true) : nd[i]? = some true := by
  subst hin
  rcases rch_needed ((reachB_iff hi).1 h1) with h0 | ⟨e, s, r, he, hne, hs, hrl, hk⟩
  · have := h.a _ h0; simpa using this
  · have hel : e < Ls.length := rch_lt hu (fun k hk => (roots_yes.1 hr k hk).2) he
    have := h.b e hel ((reachB_iff hel).2 he) s hs r hrl (by rw [hk]; simpa using fun x => hne x.symm)
    rw [hk] at this
    simpa using this
set_option maxRecDepth 100000 in
set_option maxHeartbeats 8000000 in
theorem GraphClosed_walk (w : World) (ua : Option Addr) (un uc : Nat) (L : List Ms) (hun : un ≤ maxLen) (hs : SL msC 6 w w.heap.size ua un L) (hno : Notes w w.heap.size L) (hg : ∀ m ∈ L, GoodSc m.sc) (hb : ∀ m ∈ L, m.sc.rels.length * 32 ≤ reachBytes)
    (ra : Option Addr) (rn rc : Nat) (R : List Int) (hrn : rn ≤ maxLen) (hr : SL enZ 1 w w.heap.size ra rn R) (hrz : ra = none → rn = 0 ∧ rc = 0) (hrw : rn * 8 ≤ reachBytes) (hT : TabP w) :
    Calls Tryz.prog 12 #[.slice ua un uc, .slice ra rn rc] w (RetB (.bool true) w) := by
  have hlen : (L.map (·.sc)).length = un := by rw [List.length_map]; exact hs.len.symm
  have hni : (un : Int) ≤ 9223372036854775807 := by unfold maxLen at hun; omega
  have hrni : (rn : Int) ≤ 9223372036854775807 := by unfold maxLen at hrn; omega
  have HBg : Hid (∀ u, Below w.heap.size w u → Calls Tryz.prog 36 #[.slice ua un uc] u (BoolP u)) := Lib.hid fun u hu => rBigU_any ua un uc L u hun (hs.next hu) (hno.next hu) hb
  have HRe : Hid (rn ≤ 300 → ∀ u, Below w.heap.size w u → Calls Tryz.prog 40 #[.slice ua un uc, .slice ra rn rc] u (ReachR (L.map (·.sc)) R u)) := Lib.hid fun h3 u hu => gReach_any ua un uc L ra rn rc R u hun (hs.next hu) (hno.next hu) hg hb (hr.next hu) (by omega) (hT.next hu)
  have HLk : Hid (∀ u, Below w.heap.size w u → Calls Tryz.prog 42 #[] u (RetB (.bool true) u)) := Lib.hid fun u hu => linked_is u (hT.next hu)
  have HLn := Lib.hid hlen
  have HS := Lib.hid hs
  have HNo := Lib.hid hno
  have HSr := Lib.hid hr
  have HB : Hid (Below w.heap.size w w) := Lib.hid (Below.refl _ w)
  have HLL := Lib.hid hs.len
  have HBd := Lib.hid hb
  clear hs hno hg hb hT hlen hun hr hrn hrz hrw
  by_cases h3 : 300 < rn
  · have h3i : (300 : Int) < (rn : Int) := by omega
    clear h3
    go_enter Tryz.func12, Tryz.ntmps12
    go_wp2_with fail
    refine (HBg.out _ HB.out).mono ?_
    rintro e u ⟨r, rfl, hb⟩
    replace HB := Lib.hid (after HB.out hb)
    clear hb
    cases r
    all_goals
      go_wp2
      go_ret
      exact ⟨rfl, HB.out⟩
  have h3i : ¬ (300 : Int) < (rn : Int) := by omega
  have HR3 := Lib.hid (show rn ≤ 300 by omega)
  replace HRe := Lib.hid (HRe.out HR3.out)
  clear h3
  by_cases hok : unitsR (L.map (·.sc)) = true ∧ rootsB R (L.map (·.sc)).length = true
  rotate_left
  · have HOk := Lib.hid hok
    clear hok
    go_enter Tryz.func12, Tryz.ntmps12
    go_wp2_with fail
    refine (HBg.out _ HB.out).mono ?_
    rintro e u ⟨r, rfl, hb⟩
    replace HB := Lib.hid (after HB.out hb)
    clear hb
    cases r
    rotate_left
    · go_wp2
      go_ret
      exact ⟨rfl, HB.out⟩
    go_wp2_with fail
    refine (HRe.out _ HB.out).mono ?_
    intro e u hre
    unfold ReachR at hre
    rw [if_neg HOk.out] at hre
    obtain ⟨rfl, hb⟩ := hre
    replace HB := Lib.hid (after HB.out hb)
    clear hb
    go_wp2_with fail
    refine (HLk.out _ HB.out).mono ?_
    rintro e u ⟨rfl, hb⟩
    replace HB := Lib.hid (after HB.out hb)
    clear hb
    go_wp2
    go_ret
    exact ⟨rfl, HB.out⟩
  have HOk := Lib.hid hok
  have HM : Hid (un ≤ 256) := Lib.hid (by rw [← HLn.out]; exact units_len hok.1)
  have hmk := make_bools un (by have := HM.out; omega)
  obtain ⟨ins, hins⟩ : ∃ ins, ins = reachB (L.map (·.sc)) R := ⟨_, rfl⟩
  have hil : ins.length = un := by rw [hins, reachB_len, HLn.out]
  have HIn := Lib.hid hins
  have HIl := Lib.hid hil
  clear hok hins hil
  go_enter Tryz.func12, Tryz.ntmps12
  go_wp2_with fail
  refine (HBg.out _ HB.out).mono ?_
  rintro e u ⟨r, rfl, hb⟩
  replace HB := Lib.hid (after HB.out hb)
  clear hb
  cases r
  rotate_left
  · go_wp2
    go_ret
    exact ⟨rfl, HB.out⟩
  go_wp2_with fail
  refine (HRe.out _ HB.out).mono ?_
  intro e u2 hre
  unfold ReachR at hre
  rw [if_pos HOk.out, ← HIn.out, HLn.out] at hre
  obtain ⟨g, rfl, hrb, hg, hb⟩ := hre
  replace HB := Lib.hid (after HB.out hb)
  have HC0 := Lib.hid (CW.start (n := un) HB.out hrb)
  obtain ⟨nb, hnb⟩ : ∃ nb, nb = u2.heap.size := ⟨_, rfl⟩
  have HNb := Lib.hid hnb
  rw [← hnb] at HC0
  clear hb hrb hg hnb
  go_wp2
  try rw [← HNb.out]
  generalize (u2.alloc (.cells (blA (List.replicate un false)) 4)) = W0 at HC0 ⊢
  clear hmk HNb HB HBg HRe
  go_loopw [8] (fun i wr => ∃ (j : Nat) (wx : World) (nd : List Bool), wx = wr ∧ j ≤ rn ∧ i = .int .i64 j ∧ nd.length = un ∧ Hid (CW w wx g nb ins nd) ∧ Hid (∀ x ∈ R.take j, nd[x.toNat]? = some true)) (fun i _ => rn - (intOf i).toNat)
  case atStart => exact ⟨0, _, List.replicate un false, rfl, by omega, rfl, by simp, HC0, Lib.hid (by simp)⟩
  case round =>
    clear HC0
    obtain ⟨j, wx, nd, rfl, hj, rfl, hnl, HC, HN⟩ := hrel
    by_cases hlt : j < rn
    · have hlti : (j : Int) < (rn : Int) := by omega
      have HLT := Lib.hid hlt
      have hsl := HSr.out.next HC.out.kk
      have hjR : j < R.length := by have := hsl.len; omega
      obtain ⟨b, off, hra, hBl, hc⟩ := hsl.cells (hsl.ne hlt)
      subst hra
      have d0 := hc j hjR 0 (by omega)
      have HTk : Hid (R.take (j + 1) = R.take j ++ [R[j]'hjR]) := Lib.hid (by rw [List.take_add_one, List.getElem?_eq_getElem hjR]; rfl)
      have hrt := roots_yes.1 HOk.out.2 _ (List.getElem_mem hjR)
      have hin0 : Rch (L.map (·.sc)) R (R[j]'hjR).toNat := .root (by rw [Int.toNat_of_nonneg hrt.1]; exact List.getElem_mem hjR)
      obtain ⟨k, hk⟩ : ∃ k : Nat, R[j]'hjR = (k : Int) := ⟨(R[j]'hjR).toNat, by omega⟩
      rw [hk] at d0 HTk hrt hin0
      rw [HLn.out] at hrt
      simp only [enZ, Nat.add_zero, Nat.mul_one, List.getElem?_cons_zero] at d0
      simp only [Int.toNat_natCast] at hin0
      have hkn : k < un := by omega
      have hki : ins[k]? = some true := by rw [HIn.out]; exact (reachB_iff (by rw [HLn.out]; exact hkn)).2 hin0
      have g0 : wx.cell? ⟨g, k, none⟩ = some (.bool true) := by rw [HC.out.gi.cell]; exact blA_get hki
      have hk0 : ¬ (k : Int) < 0 := by omega
      have hk1 : ¬ (un : Int) ≤ (k : Int) := by omega
      have hk2 : (k : Int) < (un : Int) := by omega
      obtain ⟨q, hq⟩ : ∃ q, nd[k]? = some q := ⟨_, List.getElem?_eq_getElem (by omega)⟩
      have n0 : wx.cell? ⟨nb, k, none⟩ = some (.bool q) := by rw [HC.out.ni.cell]; exact blA_get hq
      have f0 : wx.frozen? ⟨nb, k, none⟩ = false := HC.out.ni.frozen
      have HC2 := Lib.hid (HC.out.set k true)
      have HN2 : Hid (∀ x ∈ R.take (j + 1), (nd.set k true)[x.toNat]? = some true) := Lib.hid (fun x hx => by
        rw [HTk.out, List.mem_append] at hx
        rcases hx with hx | hx
        · exact set_keep (HN.out x hx) true (fun _ => rfl)
        · rw [List.mem_singleton.1 hx, Int.toNat_natCast, List.getElem?_set_self (by omega)])
      clear hsl hjR hBl hc hlt hj hrt hin0 hki hk HTk hq
      go_wp2
      go_roundw
      case rel => exact ⟨j + 1, _, _, rfl, by have := HLT.out; omega, by go_num, by rw [List.length_set]; exact hnl, HC2, HN2⟩
      case measure => have := HLT.out; simp [intOf]; omega
    · have hnlt : ¬ (j : Int) < (rn : Int) := by omega
      have hRt : R.take j = R := List.take_of_length_le (by have := HSr.out.len; omega)
      rw [hRt] at HN
      clear hj hlt hRt
      have HD0 : Hid (Dn (L.map (·.sc)) R ins nd 0) := Lib.hid ⟨HN.out, fun e he => absurd he (Nat.not_lt_zero _)⟩
      clear HN
      obtain ⟨nd0, hnd0⟩ : ∃ x, x = nd := ⟨_, rfl⟩
      rw [← hnd0] at HC HD0 hnl
      clear hnd0
      go_wp2
      go_loopw [9] (fun i wr => ∃ (j : Nat) (wx : World) (nd : List Bool), wx = wr ∧ j ≤ un ∧ i = .int .i64 j ∧ nd.length = un ∧ Hid (CW w wx g nb ins nd) ∧ Hid (Dn (L.map (·.sc)) R ins nd j)) (fun i _ => un - (intOf i).toNat)
      case atStart => exact ⟨0, _, nd0, rfl, by omega, rfl, hnl, HC, HD0⟩
      case round =>
        clear HC HD0 hnl
        obtain ⟨i, wx, nd, rfl, hi, rfl, hnl, HC, HD⟩ := hrel
        by_cases hlt : i < un
        · have hlti : (i : Int) < (un : Int) := by omega
          have HLT := Lib.hid hlt
          have hk1 : i < L.length := by have := HLL.out; omega
          have hat : (L.map (·.sc))[i]? = some L[i].sc := by rw [List.getElem?_map, List.getElem?_eq_getElem hk1]; rfl
          have HAt := Lib.hid hat
          have HMem : Hid (L[i] ∈ L) := Lib.hid (List.getElem_mem _)
          obtain ⟨insI, hinI⟩ : ∃ q, ins[i]? = some q := ⟨_, List.getElem?_eq_getElem (by rw [HIl.out]; exact hlt)⟩
          have HinI := Lib.hid hinI
          have HK0 : Hid (Dk (L.map (·.sc)) R ins nd i L[i].sc.rels 0) := Lib.hid ⟨HD.out, by simp⟩
          have hsi := HS.out
          obtain ⟨b, off, hua, hBl, hc⟩ := hsi.cells (hsi.ne hlt)
          have hcL := fun j hj => hc i hk1 j hj
          have HcL := Lib.hid hcL
          have HBl := Lib.hid hBl
          generalize L[i]'hk1 = m at HAt HMem HK0 hat HcL
          obtain ⟨⟨nm, ki, kp, al, dt, rl⟩, ad, cp⟩ := m
          have hcl := HcL.out 5 (by omega)
          have hc5 : w.cell? ⟨b, off + i * 6 + 5, none⟩ = some (.slice ad rl.length cp) := hcl
          have HC5 := Lib.hid hc5
          have hrb := HBd.out _ HMem.out
          simp only at hrb
          obtain ⟨nr, hnr⟩ : ∃ nr, nr = rl.length := ⟨_, rfl⟩
          have HNr := Lib.hid hnr
          have hnri : (nr : Int) ≤ 140737488351232 := by
            have h1 := hrb
            unfold reachBytes at h1
            rw [hnr]; omega
          subst hua
          simp only at HK0 HAt
          clear hc hcL hcl hc5 HcL hsi hk1 hat hinI HD hrb hnr hBl hlt hi
          go_wp2
          go_loopw [10] (fun k wr => ∃ (j : Nat) (wx : World) (nd : List Bool), wx = wr ∧ j ≤ nr ∧ k = .int .i64 j ∧ nd.length = un ∧ Hid (CW w wx g nb ins nd) ∧ Hid (Dk (L.map (·.sc)) R ins nd i rl j)) (fun k _ => nr - (intOf k).toNat)
          case atStart => exact ⟨0, _, nd, rfl, by omega, rfl, hnl, HC, HK0⟩
          case round =>
            clear HC HK0 hnl
            obtain ⟨j, wx, nd, rfl, hj, rfl, hnl, HC, HK⟩ := hrel
            have c5 : wx.cell? ⟨b, off + i * 6 + 5, none⟩ = some (.slice ad nr cp) := by rw [HNr.out, ← HC5.out]; exact World.cell?_of_block (HC.out.kk.block b HBl.out)
            have gI : wx.cell? ⟨g, i, none⟩ = some (.bool insI) := by rw [HC.out.gi.cell]; exact blA_get HinI.out
            by_cases hlt2 : j < nr ∧ insI = true
            · obtain ⟨hlt2, rfl⟩ := hlt2
              have hlti2 : (j : Int) < (nr : Int) := by omega
              have HLT2 := Lib.hid hlt2
              have hjr : j < rl.length := by have := HNr.out; omega
              have hsl := (HNo.out _ HMem.out).next HC.out.kk
              simp only at hsl
              obtain ⟨b2, off2, had, hB2, hc2⟩ := hsl.cells (hsl.ne hjr)
              subst had
              obtain ⟨d0, d1, d2, d3⟩ := rl_cells (fun i hi => hc2 j hjr i hi)
              have HTj : Hid (rl.take (j + 1) = rl.take j ++ [rl[j]]) := Lib.hid (by rw [List.take_add_one, List.getElem?_eq_getElem hjr]; rfl)
              have hRm : rl[j] ∈ rl := List.getElem_mem _
              have hus := (units_sec HOk.out.1 HAt.out).2 _ hRm
              rw [HLn.out] at hus
              generalize rl[j]'hjr = r at d0 d1 d2 d3 HTj hRm hus
              obtain ⟨rp, rk, rs, rd⟩ := r
              simp only at d0 d1 d2 d3 hus
              obtain ⟨t, ht⟩ : ∃ t : Nat, rs = (t : Int) := ⟨rs.toNat, by omega⟩
              subst ht
              have htn : t < un := by omega
              have hrch : Rch (L.map (·.sc)) R t := by
                have h0 := HinI.out
                rw [HIn.out] at h0
                exact .step ((reachB_iff (by rw [HLn.out]; exact HLT.out)).1 h0) HAt.out hRm rfl
              have hit : ins[t]? = some true := by rw [HIn.out]; exact (reachB_iff (by rw [HLn.out]; exact htn)).2 hrch
              have gT : wx.cell? ⟨g, t, none⟩ = some (.bool true) := by rw [HC.out.gi.cell]; exact blA_get hit
              have hk0 : ¬ (t : Int) < 0 := by omega
              have hk1 : ¬ (un : Int) ≤ (t : Int) := by omega
              have hk2 : (t : Int) < (un : Int) := by omega
              obtain ⟨q, hq⟩ : ∃ q, nd[t]? = some q := ⟨_, List.getElem?_eq_getElem (by omega)⟩
              have n0 : wx.cell? ⟨nb, t, none⟩ = some (.bool q) := by rw [HC.out.ni.cell]; exact blA_get hq
              have f0 : wx.frozen? ⟨nb, t, none⟩ = false := HC.out.ni.frozen
              have HTl : Hid (t < nd.length) := Lib.hid (by omega)
              have hcs : (q = true ∧ True) ∨ (q = false ∧ t ≠ i ∧ ((t : Int) != (i : Int)) = true) ∨ (q = false ∧ t = i ∧ ((t : Int) != (i : Int)) = false) := by
                cases q
                · by_cases e : t = i
                  · right; right; exact ⟨rfl, e, by simp [e]⟩
                  · right; left; refine ⟨rfl, e, ?_⟩; rw [bne_iff_ne]; omega
                · exact .inl ⟨rfl, trivial⟩
              have HQ := Lib.hid hq
              clear hsl hc2 hB2 hjr hlt2 hj hus htn hrch hit hq hRm d0 d1 d3
              rcases hcs with ⟨rfl, -⟩ | ⟨rfl, hne, hbe⟩ | ⟨rfl, heq, hbe⟩
              · have HC2 := Lib.hid (HC.out.set t true)
                have HK2 := Lib.hid (HK.out.set HTj.out rfl HTl.out (b := true) (fun _ => rfl) (fun _ => rfl))
                go_wp2
                go_roundw
                case rel => exact ⟨j + 1, _, _, rfl, by have := HLT2.out; omega, by go_num, by rw [List.length_set]; exact hnl, HC2, HK2⟩
                case measure => have := HLT2.out; simp [intOf]; omega
              · have HC2 := Lib.hid (HC.out.set t true)
                have HK2 := Lib.hid (HK.out.set HTj.out rfl HTl.out (b := true) (fun _ => rfl) (fun _ => rfl))
                clear hne
                go_wp2
                go_roundw
                case rel => exact ⟨j + 1, _, _, rfl, by have := HLT2.out; omega, by go_num, by rw [List.length_set]; exact hnl, HC2, HK2⟩
                case measure => have := HLT2.out; simp [intOf]; omega
              · have HC2 := Lib.hid (HC.out.set t false)
                have HK2 := Lib.hid (HK.out.set HTj.out rfl HTl.out (b := false) (fun h => by rw [HQ.out] at h; cases h) (fun h => absurd heq h))
                clear heq
                go_wp2
                go_roundw
                case rel => exact ⟨j + 1, _, _, rfl, by have := HLT2.out; omega, by go_num, by rw [List.length_set]; exact hnl, HC2, HK2⟩
                case measure => have := HLT2.out; simp [intOf]; omega
            · have hfin : Hid (Dn (L.map (·.sc)) R ins nd (i + 1)) := Lib.hid (HK.out.all HAt.out (by
                by_cases h : j < nr
                · right
                  have : insI = false := by cases insI; rfl; exact absurd ⟨h, rfl⟩ hlt2
                  rw [HinI.out, this]
                · left; show rl.length ≤ j; have := HNr.out; omega))
              have hcs : (¬ (j : Int) < (nr : Int)) ∨ ((j : Int) < (nr : Int) ∧ insI = false) := by
                by_cases h : j < nr
                · right; refine ⟨by omega, ?_⟩; cases insI; rfl; exact absurd ⟨h, rfl⟩ hlt2
                · left; omega
              clear hlt2 hj HK
              rcases hcs with h1 | ⟨h1, rfl⟩
              all_goals
                go_wp2
                go_roundw
                case rel => exact ⟨i + 1, _, _, rfl, by have := HLT.out; omega, by go_num, hnl, HC, hfin⟩
                case measure => have := HLT.out; simp [intOf]; omega
        · have hnlt2 : ¬ (i : Int) < (un : Int) := by omega
          have hiu : i = un := by omega
          rw [hiu] at HD
          have HAll : Hid (∀ k, k < un → ins[k]? = some true → nd[k]? = some true) := Lib.hid (fun k hk h1 => Dn.all HOk.out.1 HOk.out.2 HIn.out (by rw [HLn.out]; exact HD.out) (by rw [HLn.out]; exact hk) h1)
          clear hi hlt hiu HD
          obtain ⟨wz, hwz⟩ : ∃ x, x = wx := ⟨_, rfl⟩
          obtain ⟨nd9, hnd9⟩ : ∃ x, x = nd := ⟨_, rfl⟩
          rw [← hwz, ← hnd9] at HC
          rw [← hnd9] at HAll hnl
          rw [← hwz]
          clear hwz hnd9
          go_wp2
          go_loopw [12] (fun i wr => ∃ (j : Nat) (wx : World), wx = wr ∧ j ≤ un ∧ i = .int .i64 j ∧ Hid (CW w wx g nb ins nd9)) (fun i _ => un - (intOf i).toNat)
          case atStart => exact ⟨0, _, rfl, by omega, rfl, HC⟩
          case round =>
            clear HC
            obtain ⟨k, wy, rfl, hk, rfl, HC⟩ := hrel
            by_cases hlt : k < un
            · have hlti : (k : Int) < (un : Int) := by omega
              have HLT := Lib.hid hlt
              obtain ⟨q, hq⟩ : ∃ q, ins[k]? = some q := ⟨_, List.getElem?_eq_getElem (by rw [HIl.out]; exact hlt)⟩
              obtain ⟨p, hp⟩ : ∃ p, nd9[k]? = some p := ⟨_, List.getElem?_eq_getElem (by omega)⟩
              have hqp : q = false ∨ (q = true ∧ p = true) := by
                cases q
                · exact .inl rfl
                · have := HAll.out k hlt hq
                  rw [hp] at this
                  cases this
                  exact .inr ⟨rfl, rfl⟩
              have g0 : wy.cell? ⟨g, k, none⟩ = some (.bool q) := by rw [HC.out.gi.cell]; exact blA_get hq
              have n0 : wy.cell? ⟨nb, k, none⟩ = some (.bool p) := by rw [HC.out.ni.cell]; exact blA_get hp
              clear hq hp hlt hk
              rcases hqp with rfl | ⟨rfl, rfl⟩
              all_goals
                go_wp2
                go_roundw
                case rel => exact ⟨k + 1, _, rfl, by have := HLT.out; omega, by go_num, HC⟩
                case measure => have := HLT.out; simp [intOf]; omega
            · have hnlt3 : ¬ (k : Int) < (un : Int) := by omega
              have HB := Lib.hid HC.out.kk
              clear hk hlt
              go_wp2_with fail
              refine (HLk.out _ HB.out).mono ?_
              rintro e u ⟨rfl, hb⟩
              replace HB := Lib.hid (after HB.out hb)
              clear hb
              go_wp2
              go_ret
              exact ⟨rfl, HB.out⟩
end Go.Proofs.YtkdhomofagjcmaaGreatDoor
