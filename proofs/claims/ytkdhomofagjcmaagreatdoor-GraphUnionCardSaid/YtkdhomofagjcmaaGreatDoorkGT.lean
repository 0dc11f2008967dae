/- graph's law: GraphUnion. -/
import Derived.Test.YtkdhomofagjcmaaGreatDoorkGS
namespace Go.Proofs.YtkdhomofagjcmaaGreatDoor
set_option linter.unusedVariables false
set_option linter.unusedSimpArgs false
open Go.ChangeShapes Go.WideShapes Go.Deep Go.RowKit

theorem enZ_one (x : Int) : ∀ u ∈ enZ x, u.oneCell' = true := by intro u hu; simp [enZ] at hu; subst hu; rfl
def ReachW (ok : Prop) (w : World) (e : Ending) (w' : World) : Prop :=
  ∃ sa n c, ((ok ∧ e = .returned (.tuple #[.slice sa n c, .int .i64 0])) ∨ (¬ ok ∧ e = .returned (.tuple #[.slice sa n c, .int .i64 1]))) ∧ Below w.heap.size w w'
theorem reachW {Ls : List Sc} {R : List Int} {w w' : World} {e : Ending} (h : ReachR Ls R w e w') : ReachW (unitsR Ls = true ∧ rootsB R Ls.length = true) w e w' := by
  unfold ReachR at h
  split at h
  · rename_i c; obtain ⟨g, he, -, -, hb⟩ := h; exact ⟨_, _, _, .inl ⟨c, he⟩, hb⟩
  · rename_i c; exact ⟨_, _, _, .inr ⟨c, h.1⟩, h.2⟩
theorem rootsB_app {A B : List Int} {n : Nat} : rootsB (A ++ B) n = (rootsB A n && rootsB B n) := by unfold rootsB; rw [List.all_append]
def allN (zs : List Bool) (i : Nat) : List Nat := (List.range i).filter fun k => zs[k]? == some true
theorem allN_yes {zs : List Bool} {i : Nat} (h : zs[i]? = some true) : allN zs (i + 1) = allN zs i ++ [i] := by
  unfold allN; rw [List.range_succ, List.filter_append]; simp [h]
theorem allN_no {zs : List Bool} {i : Nat} (h : zs[i]? = some false) : allN zs (i + 1) = allN zs i := by
  unfold allN; rw [List.range_succ, List.filter_append]; simp [h]
theorem allN_mem {zs : List Bool} {i k : Nat} : k ∈ allN zs i ↔ k < i ∧ zs[k]? = some true := by
  unfold allN; simp
theorem allN_len (zs : List Bool) (i : Nat) : (allN zs i).length ≤ i := by
  unfold allN; exact Nat.le_trans (List.length_filter_le _ _) (by simp)
/-- From what was reached nothing more is. -/
theorem again_is {Ls : List Sc} {R : List Int} (hu : unitsR Ls = true) (hr : rootsB R Ls.length = true) : reachB Ls ((allN (reachB Ls R) Ls.length).map Int.ofNat) = reachB Ls R := by
  have hk : ∀ k : Nat, (k : Int) ∈ (allN (reachB Ls R) Ls.length).map Int.ofNat ↔ Rch Ls R k := by
    intro k
    rw [List.mem_map]
    constructor
    · rintro ⟨j, hj, he⟩
      have h9 : (j : Int) = (k : Int) := he
      have : j = k := by omega
      subst this
      obtain ⟨h1, h2⟩ := allN_mem.1 hj
      exact (reachB_iff h1).1 h2
    · intro h
      have hl : k < Ls.length := rch_lt hu (fun k hk => (roots_yes.1 hr k hk).2) h
      exact ⟨k, allN_mem.2 ⟨hl, (reachB_iff hl).2 h⟩, rfl⟩
  apply List.ext_getElem?
  intro k
  by_cases hl : k < Ls.length
  · have h1 := reachB_iff (roots := (allN (reachB Ls R) Ls.length).map Int.ofNat) hl
    have h2 := reachB_iff (roots := R) hl
    rw [rch_again hk, ← h2] at h1
    rw [List.getElem?_eq_getElem (by rw [reachB_len]; exact hl), List.getElem?_eq_getElem (by rw [reachB_len]; exact hl)] at h1 ⊢
    simp only [Option.some.injEq] at h1 ⊢
    exact Bool.eq_iff_iff.2 h1
  · rw [List.getElem?_eq_none (by rw [reachB_len]; omega), List.getElem?_eq_none (by rw [reachB_len]; omega)]
theorem union_is {Ls : List Sc} {A B : List Int} {k : Nat} (hl : k < Ls.length) {x y z : Bool} (hx : (reachB Ls A)[k]? = some x) (hy : (reachB Ls B)[k]? = some y) (hz : (reachB Ls (A ++ B))[k]? = some z) : z = (x || y) := by
  have h1 := reachB_iff (roots := A) hl
  have h2 := reachB_iff (roots := B) hl
  have h3 := reachB_iff (roots := A ++ B) hl
  rw [rch_or, ← h1, ← h2, hx, hy, hz] at h3
  simp only [Option.some.injEq] at h3
  rw [Bool.eq_iff_iff, Bool.or_eq_true]; exact h3
theorem RQ.drewN {w u : World} {l : List Nat} {a : Option Addr} {c : Nat} (h : RQ w u l a c) (n : Nat) : RQ w (u.drewN n) l a c := ⟨h.oo, below_drewN h.kk n⟩
theorem or3 {x y z : Bool} (h : z = (x || y)) : (z = false ∧ x = false ∧ y = false) ∨ (z = true ∧ x = true) ∨ (z = true ∧ x = false ∧ y = true) := by cases x <;> cases y <;> simp_all
theorem sameB_self (a a' : Option Addr) (n c c' : Nat) (l : List Bool) (w : World) (hn : n ≤ 1000000) (h : SL enB 1 w w.heap.size a n l) (h' : SL enB 1 w w.heap.size a' n l) : Calls Tryz.prog 46 #[.slice a n c, .slice a' n c'] w (RetB (.bool true) w) := by
  have := sameB_any a a' n n c c' l l w hn hn h h'
  rwa [decide_eq_true (rfl : l = l)] at this
theorem all_row (rs : List Nat) : (rs.map Int.ofNat).flatMap enZ = rs.flatMap enI := by
  induction rs with
  | nil => rfl
  | cons x t ih => rw [List.map_cons, List.flatMap_cons, List.flatMap_cons, ih]; rfl
theorem RQ.sl {w u : World} {l : List Nat} {a : Option Addr} {c : Nat} (h : RQ w u l a c) : SL enZ 1 u u.heap.size a l.length (l.map Int.ofNat) := by
  obtain ⟨a', c', hv, hsl, -⟩ := SL.ofOwns (enc := enZ) (l := l.map Int.ofNat) enZ_len (by decide) (by rw [all_row]; exact h.oo)
  cases hv
  exact hsl
theorem all_roots (zs : List Bool) (n : Nat) : rootsB ((allN zs n).map Int.ofNat) n = true := by
  refine roots_yes.2 fun k hk => ?_
  obtain ⟨j, hj, rfl⟩ := List.mem_map.1 hk
  have := (allN_mem.1 hj).1
  exact ⟨Int.natCast_nonneg j, by show (j : Int) < n; omega⟩
set_option maxRecDepth 100000 in
set_option maxHeartbeats 3000000 in
theorem GraphUnion_walk (w : World) (ua : Option Addr) (un uc : Nat) (L : List Ms) (hun : un ≤ maxLen) (hs : SL msC 6 w w.heap.size ua un L) (hno : Notes w w.heap.size L) (hg : ∀ m ∈ L, GoodSc m.sc) (hb : ∀ m ∈ L, m.sc.rels.length * 32 ≤ reachBytes)
    (aa : Option Addr) (an ac : Nat) (A : List Int) (han : an ≤ maxLen) (hra : SL enZ 1 w w.heap.size aa an A) (haz : aa = none → an = 0 ∧ ac = 0) (haw : an * 8 ≤ reachBytes)
    (ba : Option Addr) (bn bc : Nat) (B : List Int) (hbn : bn ≤ maxLen) (hrb : SL enZ 1 w w.heap.size ba bn B) (hbz : ba = none → bn = 0 ∧ bc = 0) (hbw : bn * 8 ≤ reachBytes) (hT : TabP w) :
    Calls Tryz.prog 13 #[.slice ua un uc, .slice aa an ac, .slice ba bn bc] w (RetB (.bool true) w) := by
  have hlen : (L.map (·.sc)).length = un := by rw [List.length_map]; exact hs.len.symm
  have hni : (un : Int) ≤ 9223372036854775807 := by unfold maxLen at hun; omega
  have hani : (an : Int) ≤ 140737488351232 := by unfold reachBytes at haw; omega
  have hbni : (bn : Int) ≤ 140737488351232 := by unfold reachBytes at hbw; omega
  have hwq : IntKind.i64.wrap ((an : Int) + (bn : Int)) = (an : Int) + (bn : Int) := by rw [IntKind.wrap_i64]; omega
  have HBg : Hid (∀ u, Below w.heap.size w u → Calls Tryz.prog 36 #[.slice ua un uc] u (BoolP u)) := Lib.hid fun u hu => rBigU_any ua un uc L u hun (hs.next hu) (hno.next hu) hb
  have HRe : Hid (∀ u ra rn rc R, rn ≤ 1000000 → Below w.heap.size w u → SL enZ 1 u u.heap.size ra rn R → Calls Tryz.prog 40 #[.slice ua un uc, .slice ra rn rc] u (ReachR (L.map (·.sc)) R u)) := Lib.hid fun u ra rn rc R h3 hu hr => gReach_any ua un uc L ra rn rc R u hun (hs.next hu) (hno.next hu) hg hb hr h3 (hT.next hu)
  have HLk : Hid (∀ u, Below w.heap.size w u → Calls Tryz.prog 42 #[] u (RetB (.bool true) u)) := Lib.hid fun u hu => linked_is u (hT.next hu)
  have HLn := Lib.hid hlen
  have HSa := Lib.hid hra
  have HSb := Lib.hid hrb
  have HAz := Lib.hid haz
  have HBz := Lib.hid hbz
  have HB : Hid (Below w.heap.size w w) := Lib.hid (Below.refl _ w)
  obtain ⟨i0, hi, hz0, hz1, hz2⟩ := info_parts info_intG
  clear hs hno hg hb hT hlen hun hra hrb haz hbz haw hbw han hbn
  by_cases h3 : 300 < an + bn
  · have h3i : (300 : Int) < (an : Int) + (bn : Int) := by omega
    clear h3
    go_enter Tryz.func13, Tryz.ntmps13
    go_wp2_with fail
    refine (HBg.out _ HB.out).mono ?_
    rintro e u ⟨r, rfl, hb⟩
    replace HB := Lib.hid (after HB.out hb)
    clear hb
    cases r
    all_goals
      go_wp2
      go_ret
      exact ⟨rfl, HB.out⟩
  have h3i : ¬ (300 : Int) < (an : Int) + (bn : Int) := by omega
  have H3 := Lib.hid (show an + bn ≤ 300 by omega)
  clear h3
  by_cases hok : (unitsR (L.map (·.sc)) = true ∧ rootsB A (L.map (·.sc)).length = true) ∧ (unitsR (L.map (·.sc)) = true ∧ rootsB B (L.map (·.sc)).length = true)
  rotate_left
  · have HOk := Lib.hid hok
    have HNz : Hid (¬ (unitsR (L.map (·.sc)) = true ∧ rootsB (A ++ B) (L.map (·.sc)).length = true)) := Lib.hid (fun h => hok (by rw [rootsB_app, Bool.and_eq_true] at h; exact ⟨⟨h.1, h.2.1⟩, ⟨h.1, h.2.2⟩⟩))
    clear hok
    go_enter Tryz.func13, Tryz.ntmps13
    go_wp2_with fail
    refine (HBg.out _ HB.out).mono ?_
    rintro e u ⟨r, rfl, hb⟩
    replace HB := Lib.hid (after HB.out hb)
    clear hb
    cases r
    rotate_left
    · go_wp2
      go_ret
      exact ⟨rfl, HB.out⟩
    go_wp2_with fail
    refine (HRe.out _ aa an ac A (by have := H3.out; omega) HB.out (HSa.out.next HB.out)).mono ?_
    intro e u hre
    obtain ⟨sa, n1, c1, hcs, hb⟩ := reachW hre
    replace HB := Lib.hid (after HB.out hb)
    clear hb hre
    rcases hcs with ⟨hoa, rfl⟩ | ⟨hoa, rfl⟩
    all_goals
      go_wp2_with fail
      refine (HRe.out _ ba bn bc B (by have := H3.out; omega) HB.out (HSb.out.next HB.out)).mono ?_
      intro e u2 hre
      obtain ⟨sb, n2, c2, hcs, hb⟩ := reachW hre
      replace HB := Lib.hid (after HB.out hb)
      clear hb hre
      rcases hcs with ⟨hob, rfl⟩ | ⟨hob, rfl⟩
      all_goals
        try (exfalso; apply HOk.out; refine ⟨?_, ?_⟩ <;> assumption)
      all_goals
        clear hoa hob
        have HA1 := Lib.hid (HSa.out.next HB.out)
        have HA2 := Lib.hid (HSb.out.next HB.out)
        obtain ⟨bs, hbs⟩ : ∃ bs, bs = u2.heap.size := ⟨_, rfl⟩
        have HBs := Lib.hid hbs
        have m1 : 0 + an ≤ maxLen := by unfold maxLen; have := H3.out; omega
        have m2 : (0 + an) * 8 ≤ 140737488355328 := by have := H3.out; omega
        have m3 : 0 + an + bn ≤ maxLen := by unfold maxLen; have := H3.out; omega
        have m4 : (0 + an + bn) * 8 ≤ 140737488355328 := by have := H3.out; omega
        have tok1 : True := trivial
        clear hbs
        go_wp2_with (first
          | (at_builtin; have _t := tok1; refine append_SL rfl _ _ 59 rfl u2.heap.size 3 i0 (.int .i64 0) 8 Tryz.underlying59 hi hz0 hz1 hz2 rfl (by decide) enZ_len enZ_one _ 0 [] rfl (World.ownsRow_nil _ _ _ _) aa an ac A rfl HA1.out HAz.out m1 m2 (Nat.le_refl _) ?_; intro v1 w4 hown1 hbl1 hgr1; clear tok1)
          | (at_builtin; refine append_SL rfl _ _ 59 rfl u2.heap.size 3 i0 (.int .i64 0) 8 Tryz.underlying59 hi hz0 hz1 hz2 rfl (by decide) enZ_len enZ_one _ (0 + an) ([] ++ A) rfl hown1 ba bn bc B rfl (HA2.out.next hbl1) HBz.out m3 m4 hbl1.size ?_; intro v2 w5 hown2 hbl2 hgr2)
          | fail)
        replace HB := Lib.hid (after HB.out (hbl1.trans hbl2))
        obtain ⟨za, zc, hzv, hzs, -⟩ := SL.ofOwns enZ_len (by decide) hown2
        rw [Nat.zero_add] at hzv
        subst hzv
        rw [List.nil_append, Nat.zero_add] at hzs
        have HZs := Lib.hid hzs
        have hsz5 := hbl1.trans hbl2
        clear hzs hown1 hown2 hbl1 hbl2 hgr1 hgr2 hsz5 m1 m2 m3 m4
        refine (HRe.out _ za (an + bn) zc (A ++ B) (by have := H3.out; omega) HB.out HZs.out).mono ?_
        intro e u3 hre
        unfold ReachR at hre
        rw [if_neg HNz.out] at hre
        obtain ⟨rfl, hb⟩ := hre
        replace HB := Lib.hid (after HB.out hb)
        clear hb
        go_wp2_with fail
        refine (HLk.out _ HB.out).mono ?_
        rintro e u ⟨rfl, hb⟩
        replace HB := Lib.hid (after HB.out hb)
        clear hb
        go_wp2
        go_ret
        exact ⟨rfl, HB.out⟩
  have HOk := Lib.hid hok
  have HOz : Hid (unitsR (L.map (·.sc)) = true ∧ rootsB (A ++ B) (L.map (·.sc)).length = true) := Lib.hid ⟨hok.1.1, by rw [rootsB_app, hok.1.2, hok.2.2]; rfl⟩
  have HM : Hid (un ≤ 256) := Lib.hid (by rw [← HLn.out]; exact units_len hok.1.1)
  obtain ⟨xs, hxs⟩ : ∃ xs, xs = reachB (L.map (·.sc)) A := ⟨_, rfl⟩
  obtain ⟨ys, hys⟩ : ∃ ys, ys = reachB (L.map (·.sc)) B := ⟨_, rfl⟩
  obtain ⟨zs, hzs0⟩ : ∃ zs, zs = reachB (L.map (·.sc)) (A ++ B) := ⟨_, rfl⟩
  have HX := Lib.hid hxs
  have HY := Lib.hid hys
  have HZ := Lib.hid hzs0
  have HXl : Hid (xs.length = un) := Lib.hid (by rw [hxs, reachB_len, HLn.out])
  have HYl : Hid (ys.length = un) := Lib.hid (by rw [hys, reachB_len, HLn.out])
  have HZl : Hid (zs.length = un) := Lib.hid (by rw [hzs0, reachB_len, HLn.out])
  clear hok hxs hys hzs0
  go_enter Tryz.func13, Tryz.ntmps13
  go_wp2_with fail
  refine (HBg.out _ HB.out).mono ?_
  rintro e u ⟨r, rfl, hb⟩
  replace HB := Lib.hid (after HB.out hb)
  clear hb
  cases r
  rotate_left
  · go_wp2
    go_ret
    exact ⟨rfl, HB.out⟩
  go_wp2_with fail
  refine (HRe.out _ aa an ac A (by have := H3.out; omega) HB.out (HSa.out.next HB.out)).mono ?_
  intro e u hre
  unfold ReachR at hre
  rw [if_pos HOk.out.1, ← HX.out, HLn.out] at hre
  obtain ⟨gx, rfl, hrx, -, hb⟩ := hre
  have HGX := Lib.hid hrx
  replace HB := Lib.hid (after HB.out hb)
  clear hb hrx
  go_wp2_with fail
  refine (HRe.out _ ba bn bc B (by have := H3.out; omega) HB.out (HSb.out.next HB.out)).mono ?_
  intro e u2 hre
  unfold ReachR at hre
  rw [if_pos HOk.out.2, ← HY.out, HLn.out] at hre
  obtain ⟨gy, rfl, hry, -, hb⟩ := hre
  have HGY := Lib.hid hry
  replace HB := Lib.hid (after HB.out hb)
  replace HGX := Lib.hid (HGX.out.next hb)
  clear hb hry
  have HA1 := Lib.hid (HSa.out.next HB.out)
  have HA2 := Lib.hid (HSb.out.next HB.out)
  obtain ⟨bs, hbs⟩ : ∃ bs, bs = u2.heap.size := ⟨_, rfl⟩
  have HBs := Lib.hid hbs
  have m1 : 0 + an ≤ maxLen := by unfold maxLen; have := H3.out; omega
  have m2 : (0 + an) * 8 ≤ 140737488355328 := by have := H3.out; omega
  have m3 : 0 + an + bn ≤ maxLen := by unfold maxLen; have := H3.out; omega
  have m4 : (0 + an + bn) * 8 ≤ 140737488355328 := by have := H3.out; omega
  have tok1 : True := trivial
  clear hbs
  go_wp2_with (first
    | (at_builtin; have _t := tok1; refine append_SL rfl _ _ 59 rfl u2.heap.size 3 i0 (.int .i64 0) 8 Tryz.underlying59 hi hz0 hz1 hz2 rfl (by decide) enZ_len enZ_one _ 0 [] rfl (World.ownsRow_nil _ _ _ _) aa an ac A rfl HA1.out HAz.out m1 m2 (Nat.le_refl _) ?_; intro v1 w4 hown1 hbl1 hgr1; clear tok1)
    | (at_builtin; refine append_SL rfl _ _ 59 rfl u2.heap.size 3 i0 (.int .i64 0) 8 Tryz.underlying59 hi hz0 hz1 hz2 rfl (by decide) enZ_len enZ_one _ (0 + an) ([] ++ A) rfl hown1 ba bn bc B rfl (HA2.out.next hbl1) HBz.out m3 m4 hbl1.size ?_; intro v2 w5 hown2 hbl2 hgr2)
    | fail)
  replace HB := Lib.hid (after HB.out (hbl1.trans hbl2))
  obtain ⟨za, zc, hzv, hzs, -⟩ := SL.ofOwns enZ_len (by decide) hown2
  rw [Nat.zero_add] at hzv
  subst hzv
  rw [List.nil_append, Nat.zero_add] at hzs
  have HZs := Lib.hid hzs
  have hsz5 := hbl1.trans hbl2
  replace HGX := Lib.hid (HGX.out.next hsz5)
  replace HGY := Lib.hid (HGY.out.next hsz5)
  clear hzs hown1 hown2 hbl1 hbl2 hgr1 hgr2 hsz5 m1 m2 m3 m4
  refine (HRe.out _ za (an + bn) zc (A ++ B) (by have := H3.out; omega) HB.out HZs.out).mono ?_
  intro e u3 hre
  unfold ReachR at hre
  rw [if_pos HOz.out, ← HZ.out, HLn.out] at hre
  obtain ⟨gz, rfl, hrz, -, hb⟩ := hre
  have HGZ := Lib.hid hrz
  replace HB := Lib.hid (after HB.out hb)
  replace HGX := Lib.hid (HGX.out.next hb)
  replace HGY := Lib.hid (HGY.out.next hb)
  have HQ0 : Hid (RQ u3 u3 [] none 0) := Lib.hid ⟨World.ownsRow_nil _ _ _ _, Below.refl _ _⟩
  clear hb hrz HZs HA1 HA2 HBs
  go_wp2
  go_loopw [14, 15] (fun l i wr => ∃ (k : Nat) (wx : World) (rs : List Nat) (a : Option Addr) (q c : Nat), wx = wr ∧ k ≤ un ∧ l = .slice a q c ∧ i = .int .i64 k ∧ Hid (q = rs.length) ∧ Hid (RQ u3 wx rs a c) ∧ Hid (rs = allN zs k)) (fun _ i _ => un - (intOf i).toNat)
  case atStart => exact ⟨0, _, [], none, 0, 0, rfl, by omega, rfl, rfl, Lib.hid rfl, HQ0, Lib.hid rfl⟩
  case round =>
    clear HQ0
    obtain ⟨k, wx, rs, a, q, c, rfl, hk, rfl, rfl, HQq, HQ, HRs⟩ := hrel
    by_cases hlt : k < un
    · have hlti : (k : Int) < (un : Int) := by omega
      have HLT := Lib.hid hlt
      obtain ⟨x, hx⟩ : ∃ q, xs[k]? = some q := ⟨_, List.getElem?_eq_getElem (by rw [HXl.out]; exact hlt)⟩
      obtain ⟨y, hy⟩ : ∃ q, ys[k]? = some q := ⟨_, List.getElem?_eq_getElem (by rw [HYl.out]; exact hlt)⟩
      obtain ⟨z, hz⟩ : ∃ q, zs[k]? = some q := ⟨_, List.getElem?_eq_getElem (by rw [HZl.out]; exact hlt)⟩
      have hzz : z = (x || y) := union_is (by rw [HLn.out]; exact hlt) (HX.out ▸ hx) (HY.out ▸ hy) (HZ.out ▸ hz)
      have hcs := or3 hzz
      have x0 : wx.cell? ⟨gx, k, none⟩ = some (.bool x) := by rw [(HGX.out.next HQ.out.kk).cell]; exact blA_get hx
      have y0 : wx.cell? ⟨gy, k, none⟩ = some (.bool y) := by rw [(HGY.out.next HQ.out.kk).cell]; exact blA_get hy
      have z0 : wx.cell? ⟨gz, k, none⟩ = some (.bool z) := by rw [(HGZ.out.next HQ.out.kk).cell]; exact blA_get hz
      have hql : Hid (q ≤ 256) := Lib.hid (by rw [HQq.out, HRs.out]; have := allN_len zs k; have := HM.out; omega)
      have HZk := Lib.hid hz
      have hx0 : Hid (u3.heap.size ≤ wx.heap.size) := Lib.hid HQ.out.kk.size
      clear hx hy hz hzz hlt hk
      rcases hcs with ⟨rfl, rfl, rfl⟩ | ⟨rfl, rfl⟩ | ⟨rfl, rfl, rfl⟩
      · have HR5 : Hid (rs = allN zs (k + 1)) := Lib.hid (by rw [allN_no HZk.out]; exact HRs.out)
        go_wp2
        go_quiet (fail)
        have HQ5 := Lib.hid (HQ.out.drewN nq)
        go_wp2
        go_roundw
        case rel => exact ⟨k + 1, _, _, _, _, _, rfl, by have := HLT.out; omega, rfl, by go_num, HQq, HQ5, HR5⟩
        case measure => have := HLT.out; simp [intOf]; omega
      all_goals
        have HR5 : Hid (rs ++ [k] = allN zs (k + 1)) := Lib.hid (by rw [allN_yes HZk.out, ← HRs.out])
        have HQq2 : Hid (q + 1 = (rs ++ [k]).length) := Lib.hid (by rw [HQq.out]; simp)
        go_wp2
        go_quiet (fail)
        have HQ5 := Lib.hid (HQ.out.drewN nq)
        have z5 : (wx.drewN nq).cell? ⟨gz, k, none⟩ = some (.bool true) := z0
        have hx5 : Hid (u3.heap.size ≤ (wx.drewN nq).heap.size) := hx0
        generalize wx.drewN nq = wo at HQ5 z5 hx5 ⊢
        go_wp2_with (at_builtin; refine wpList_append_lies _ rfl _ _ 59 rfl u3.heap.size 3 i0 (.int .i64 0) 1 8 Tryz.underlying59 hi hz0 hz1 hz2 rfl (by decide) (.slice a q c) q (rs.flatMap enI) rfl (by have := HQ5.out.oo; rw [← HQq.out] at this; exact this.alloc _) ⟨wo.heap.size, 0, none⟩ 1 1 (enI k) rfl rfl (World.news_of_block (cs := #[.int .i64 (k : Int)]) (t := 3) (fr := (0, 0)) (heap_alloc_new wo _)) (by simp [enI, Value.oneCell']) (by decide) (by have := hql.out; unfold maxLen; omega) (by have := hql.out; omega) (by have := hx5.out; simp; omega) (wo.heap.size + 1) (by simp) ?_; intro g cap w2 hown2 hgrow2 hlie2 hlt2)
        rw [HQq.out] at hown2 hgrow2
        have HQ6 := Lib.hid (HQ5.out.grow hown2 hgrow2)
        clear hown2 hgrow2 hlie2 hlt2 HQ5
        go_roundw
        case rel => exact ⟨k + 1, _, _, _, _, _, rfl, by have := HLT.out; omega, rfl, by go_num, HQq2, HQ6, HR5⟩
        case measure => have := HLT.out; simp [intOf]; omega
    · have hnlt : ¬ (k : Int) < (un : Int) := by omega
      have hku : k = un := by omega
      rw [hku] at HRs
      have HSq := Lib.hid HQ.out.sl
      rw [← HQq.out] at HSq
      have HBx := Lib.hid (after HB.out HQ.out.kk)
      have hql : q ≤ 1000000 := by rw [HQq.out, HRs.out]; have := allN_len zs un; have := HM.out; omega
      have HQl := Lib.hid hql
      have HAl : Hid (unitsR (L.map (·.sc)) = true ∧ rootsB (rs.map Int.ofNat) (L.map (·.sc)).length = true) := Lib.hid ⟨HOz.out.1, by rw [HLn.out, HRs.out]; exact all_roots zs un⟩
      have HAg : Hid (reachB (L.map (·.sc)) (rs.map Int.ofNat) = zs) := Lib.hid (by rw [HRs.out, HZ.out, ← HLn.out]; exact again_is HOz.out.1 HOz.out.2)
      have HGZ2 := Lib.hid (HGZ.out.next HQ.out.kk)
      clear hk hlt hku hql HGX HGY
      go_wp2_with fail
      refine (HRe.out _ a q c (rs.map Int.ofNat) HQl.out HBx.out HSq.out).mono ?_
      intro e u4 hre
      unfold ReachR at hre
      rw [if_pos HAl.out, HAg.out, HLn.out] at hre
      obtain ⟨gw, rfl, hrw, -, hb⟩ := hre
      have HGW := Lib.hid hrw
      replace HGZ2 := Lib.hid (HGZ2.out.next hb)
      replace HBx := Lib.hid (after HBx.out hb)
      clear hb hrw
      go_wp2_with fail
      refine (HLk.out _ HBx.out).mono ?_
      rintro e u5 ⟨rfl, hb⟩
      replace HGZ2 := Lib.hid (HGZ2.out.next hb)
      replace HGW := Lib.hid (HGW.out.next hb)
      replace HBx := Lib.hid (after HBx.out hb)
      clear hb
      have HL1 := Lib.hid (rb_sl HGW.out)
      have HL2 := Lib.hid (rb_sl HGZ2.out)
      rw [HZl.out] at HL1 HL2
      go_wp2_with fail
      refine (sameB_self _ _ un _ _ zs _ (by have := HM.out; omega) HL1.out HL2.out).mono ?_
      rintro e u6 ⟨rfl, hb⟩
      replace HBx := Lib.hid (after HBx.out hb)
      clear hb
      go_wp2
      go_ret
      exact ⟨rfl, HBx.out⟩
end Go.Proofs.YtkdhomofagjcmaaGreatDoor
