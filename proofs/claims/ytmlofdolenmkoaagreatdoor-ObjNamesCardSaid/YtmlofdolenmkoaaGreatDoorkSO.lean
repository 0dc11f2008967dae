/- ObjNames. -/
import Derived.Test.YtmlofdolenmkoaaGreatDoorkSN
namespace Go.Proofs.YtmlofdolenmkoaaGreatDoor
set_option linter.unusedVariables false
set_option linter.unusedSimpArgs false
open Go.ChangeShapes Go.WideShapes Go.Deep Go.RowKit

def fInB (nm : List UInt8) (l : List Sy) : Bool := !(nm == []) && l.any (fun s => s.name == nm)
theorem in_step (nm : List UInt8) {l : List Sy} {k : Nat} (h : k < l.length) : fInB nm (l.take (k + 1)) = (fInB nm (l.take k) || (!(nm == []) && l[k].name == nm)) := by
  unfold fInB
  rw [List.take_succ_eq_append_getElem h, List.any_append]
  simp only [List.any_cons, List.any_nil, Bool.or_false]
  rw [Bool.and_or_distrib_left]
theorem in_end {o : Ob} (h : isO o = true) (nm : List UInt8) : fInB nm o.syms = (findL o nm).2 := by
  unfold fInB findL
  by_cases e : nm = []
  · rw [if_pos (.inl e), e]; rfl
  · rw [if_neg (by rintro (x | x); exact e x; rw [h] at x; cases x)]
    have h1 : (nm == []) = false := by rw [beq_eq_false_iff_ne]; exact e
    rw [h1]
    cases hf : findR nm 0 o.syms with
    | none =>
      simp only [Bool.not_false, Bool.true_and]
      rw [List.any_eq_false]
      intro s hs
      rw [beq_iff_eq]
      exact findR_none hf s hs
    | some j =>
      simp only [Bool.not_false, Bool.true_and]
      obtain ⟨-, h2, h3⟩ := findR_some hf
      rw [List.any_eq_true]
      exact ⟨_, List.getElem_mem h2, by rw [beq_iff_eq]; exact h3⟩
theorem find_at {o : Ob} {nm : List UInt8} {f0 : Int} (h : findL o nm = (f0, true)) : nm ≠ [] ∧ ∃ p : Nat, f0 = p ∧ ∃ hp : p < o.syms.length, o.syms[p].name = nm := by
  unfold findL at h
  split at h
  · cases h
  · rename_i c
    refine ⟨fun x => c (.inl x), ?_⟩
    cases hf : findR nm 0 o.syms with
    | none => rw [hf] at h; cases h
    | some j =>
      rw [hf] at h
      simp only [Prod.mk.injEq] at h
      obtain ⟨-, h2, h3⟩ := findR_some hf
      exact ⟨j, h.1.symm, by simpa using h2, by simpa using h3⟩
set_option maxRecDepth 100000 in
set_option maxHeartbeats 8000000 in
theorem ObjNames_walk (w : World) (a : Option Addr) (n c : Nat) (L : List Ms) (a2 : Option Addr) (n2 c2 : Nat) (l : List Sy) (hn : n ≤ maxLen) (hn2 : n2 ≤ maxLen) (hs : SL msC 6 w w.heap.size a n L) (hno : Notes w w.heap.size L) (hg : ∀ m ∈ L, GoodSc m.sc) (hs2 : SL syC 4 w w.heap.size a2 n2 l) (hg2 : ∀ s ∈ l, GoodSy s) (D : ByteArray) (hD : D.size ≤ reachBytes) (hT : TabP w) : Calls Tryz.prog 10 #[.agg #[.slice a n c, .slice a2 n2 c2], .string D] w (RetB (.bool true) w) := by
  have hDi : (D.size : Int) ≤ 140737488351232 := by unfold reachBytes at hD; omega
  have HBg : Hid (∀ u, Below w.heap.size w u → Calls Tryz.prog 25 #[.agg #[.slice a n c, .slice a2 n2 c2]] u (SomeB u)) := Lib.hid fun u hu => rOBig_any a n c L a2 n2 c2 l hn hn2 u (hs.next hu) (hs2.next hu)
  have HFd : Hid (∀ u (E : ByteArray), Below w.heap.size w u → Calls Tryz.prog 31 #[.agg #[.slice a n c, .slice a2 n2 c2], .string E] u (RetB (.tuple #[.int .i64 (findL ⟨L.map (·.sc), l⟩ E.data.toList).1, .bool (findL ⟨L.map (·.sc), l⟩ E.data.toList).2]) u)) := Lib.hid fun u E hu => oFind_any a n c L a2 n2 c2 l hn hn2 u (hs.next hu) (hno.next hu) hg (hs2.next hu) hg2 (hT.next hu) E
  have HIs : Hid (∀ u, Below w.heap.size w u → Calls Tryz.prog 34 #[.agg #[.slice a n c, .slice a2 n2 c2]] u (RetB (.bool (isO ⟨L.map (·.sc), l⟩)) u)) := Lib.hid fun u hu => oIs_any a n c L a2 n2 c2 l hn hn2 u (hs.next hu) (hno.next hu) hg (hs2.next hu) hg2 (hT.next hu)
  have HG := Lib.hid (fun u (hu : TabP u) => held_is u hu)
  have HT := Lib.hid hT
  have HS2 := Lib.hid hs2
  have HLn2 := Lib.hid hs2.len
  obtain ⟨ob, hob⟩ : ∃ ob : Ob, ob = ⟨L.map (·.sc), l⟩ := ⟨_, rfl⟩
  have hol : l = ob.syms := by rw [hob]
  rw [← hob] at HFd HIs
  have HOl := Lib.hid hol
  have HB : Hid (Below w.heap.size w w) := Lib.hid (Below.refl _ w)
  have hni2 : (n2 : Int) ≤ 9223372036854775807 := by unfold maxLen at hn2; omega
  clear hs hno hg hs2 hg2 hT hob hol
  cases hq : isO ob
  · rw [hq] at HIs
    have HFD0 : Hid (∀ u, Below w.heap.size w u → Calls Tryz.prog 31 #[.agg #[.slice a n c, .slice a2 n2 c2], .string D] u (RetB (.tuple #[.int .i64 0, .bool false]) u)) := Lib.hid fun u hu => by
      have := HFd.out u D hu
      rwa [show findL ob D.data.toList = (0, false) from by unfold findL; rw [if_pos (.inr hq)]] at this
    clear hq
    go_enter Tryz.func10, Tryz.ntmps10
    obtain ⟨X, hX⟩ : ∃ X, X = w.heap.size := ⟨_, rfl⟩
    have HEX := Lib.hid hX
    have HA : Hid (Below w.heap.size w (w.alloc (.cells #[.slice a n c, .slice a2 n2 c2] 53))) := Lib.hid ((Below.refl _ w).alloc (Nat.le_refl _) _)
    have HRX : Hid (RB (w.alloc (.cells #[.slice a n c, .slice a2 n2 c2] 53)) X #[.slice a n c, .slice a2 n2 c2] 53) := Lib.hid (by rw [hX]; exact (MapKept.heap_alloc w _).1)
    clear hX
    go_wp2_with fail
    try rw [← HEX.out]
    generalize (w.alloc (.cells #[.slice a n c, .slice a2 n2 c2] 53)) = W at HA HRX ⊢
    replace HB : Hid (Below w.heap.size w W) := Lib.hid (after HB.out HA.out)
    clear HA HEX
    refine (HBg.out _ HB.out).mono ?_
    rintro e u ⟨r, rfl, hb⟩
    replace HB := Lib.hid (after HB.out hb)
    replace HRX := Lib.hid (HRX.out.next hb)
    clear hb
    cases r
    rotate_left
    · go_wp2
      go_ret
      exact retB_bool rfl HB.out
    by_cases h100 : (100 : Int) < (D.size : Int)
    · go_wp2
      go_ret
      exact retB_bool rfl HB.out
    have x_0 : u.cell? ⟨X, 0, none⟩ = some (.slice a n c) := HRX.out.cell
    have x_1 : u.cell? ⟨X, 1, none⟩ = some (.slice a2 n2 c2) := HRX.out.cell
    go_wp2_with fail
    clear x_0 x_1
    refine (HFD0.out _ HB.out).mono ?_
    rintro e u ⟨rfl, hb⟩
    replace HB := Lib.hid (after HB.out hb)
    replace HRX := Lib.hid (HRX.out.next hb)
    clear hb
    have x_0 : u.cell? ⟨X, 0, none⟩ = some (.slice a n c) := HRX.out.cell
    have x_1 : u.cell? ⟨X, 1, none⟩ = some (.slice a2 n2 c2) := HRX.out.cell
    go_wp2_with fail
    clear x_0 x_1
    refine (HIs.out _ HB.out).mono ?_
    rintro e u ⟨rfl, hb⟩
    replace HB := Lib.hid (after HB.out hb)
    replace HRX := Lib.hid (HRX.out.next hb)
    clear hb
    go_wp2_with fail
    refine (HG.out _ (HT.out.next HB.out)).mono ?_
    rintro e u ⟨rfl, hb⟩
    replace HB := Lib.hid (after HB.out hb)
    replace HRX := Lib.hid (HRX.out.next hb)
    clear hb
    go_wp2
    go_ret
    exact retB_bool rfl HB.out
  rw [hq] at HIs
  have HQ := Lib.hid hq
  have h128 : n2 ≤ 128 := by
    have := (is_ok hq).2.1
    rw [← HOl.out] at this
    have := HLn2.out; omega
  obtain ⟨f0, f1, hf⟩ : ∃ f0 f1, findL ob D.data.toList = (f0, f1) := ⟨_, _, rfl⟩
  have HF := Lib.hid hf
  have HFD0 : Hid (∀ u, Below w.heap.size w u → Calls Tryz.prog 31 #[.agg #[.slice a n c, .slice a2 n2 c2], .string D] u (RetB (.tuple #[.int .i64 f0, .bool f1]) u)) := Lib.hid fun u hu => by
    have := HFd.out u D hu
    rwa [hf] at this
  have HIN : Hid (fInB D.data.toList l = f1) := Lib.hid (by
    rw [HOl.out, in_end hq, hf])
  clear hq hf
  go_enter Tryz.func10, Tryz.ntmps10
  obtain ⟨X, hX⟩ : ∃ X, X = w.heap.size := ⟨_, rfl⟩
  have HEX := Lib.hid hX
  have HA : Hid (Below w.heap.size w (w.alloc (.cells #[.slice a n c, .slice a2 n2 c2] 53))) := Lib.hid ((Below.refl _ w).alloc (Nat.le_refl _) _)
  have HRX : Hid (RB (w.alloc (.cells #[.slice a n c, .slice a2 n2 c2] 53)) X #[.slice a n c, .slice a2 n2 c2] 53) := Lib.hid (by rw [hX]; exact (MapKept.heap_alloc w _).1)
  clear hX
  go_wp2_with fail
  try rw [← HEX.out]
  generalize (w.alloc (.cells #[.slice a n c, .slice a2 n2 c2] 53)) = W at HA HRX ⊢
  replace HB : Hid (Below w.heap.size w W) := Lib.hid (after HB.out HA.out)
  clear HA HEX
  refine (HBg.out _ HB.out).mono ?_
  rintro e u ⟨r, rfl, hb⟩
  replace HB := Lib.hid (after HB.out hb)
  replace HRX := Lib.hid (HRX.out.next hb)
  clear hb
  cases r
  rotate_left
  · go_wp2
    go_ret
    exact retB_bool rfl HB.out
  by_cases h100 : (100 : Int) < (D.size : Int)
  · go_wp2
    go_ret
    exact retB_bool rfl HB.out
  have x_0 : u.cell? ⟨X, 0, none⟩ = some (.slice a n c) := HRX.out.cell
  have x_1 : u.cell? ⟨X, 1, none⟩ = some (.slice a2 n2 c2) := HRX.out.cell
  go_wp2_with fail
  clear x_0 x_1
  refine (HFD0.out _ HB.out).mono ?_
  rintro e u ⟨rfl, hb⟩
  replace HB := Lib.hid (after HB.out hb)
  replace HRX := Lib.hid (HRX.out.next hb)
  clear hb
  have x_0 : u.cell? ⟨X, 0, none⟩ = some (.slice a n c) := HRX.out.cell
  have x_1 : u.cell? ⟨X, 1, none⟩ = some (.slice a2 n2 c2) := HRX.out.cell
  go_wp2_with fail
  clear x_0 x_1
  refine (HIs.out _ HB.out).mono ?_
  rintro e u ⟨rfl, hb⟩
  replace HB := Lib.hid (after HB.out hb)
  replace HRX := Lib.hid (HRX.out.next hb)
  clear hb
  have HBs := Lib.hid HB.out
  have HRXs := Lib.hid HRX.out
  have x1 : u.cell? ⟨X, 1, none⟩ = some (.slice a2 n2 c2) := HRX.out.cell
  clear HB HRX HBg
  cases f1
  · go_wp2
    clear x1
    go_loopw [7, 8] (fun s7 i wr => ∃ (k : Nat) (wx : World) (ib : Bool), wx = wr ∧ k ≤ n2 ∧ s7 = .bool ib ∧ i = .int .i64 k ∧ Below w.heap.size w wx ∧ RB wx X #[.slice a n c, .slice a2 n2 c2] 53 ∧ Hid (fInB D.data.toList (l.take k) = ib)) (fun _ i _ => n2 - (intOf i).toNat)
    case atStart => exact ⟨0, _, false, rfl, by omega, rfl, rfl, HBs.out, HRXs.out, Lib.hid (by unfold fInB; simp)⟩
    case round =>
      clear HBs HRXs
      obtain ⟨k, wx, ib, rfl, hk, rfl, rfl, hbr, hrx, HI⟩ := hrel
      have HBR := Lib.hid hbr
      have HRX := Lib.hid hrx
      clear hbr hrx
      by_cases hlt : k < n2
      · have hlti : (k : Int) < (n2 : Int) := by omega
        have hk1 : k < l.length := by have := HLn2.out; omega
        have hstep := in_step D.data.toList hk1
        rw [HI.out] at hstep
        have hown : l[k].name ≠ [] → findL ob l[k].name = (((k : Nat) : Int), true) := by
          have hlo := HOl.out
          subst hlo
          exact fun h => find_own HQ.out hk1 h
        obtain ⟨bb, off, rfl, hB, hc⟩ := (HS2.out.next HBR.out).cells (HS2.out.ne hlt)
        obtain ⟨c0, c1, c2', c3⟩ := sy_cells (fun j hj => hc k hk1 j hj)
        generalize (l[k]'hk1) = sy at c0 c1 c2' c3 hstep hown
        clear hc hB
        obtain ⟨nm, bi, se, of⟩ := sy
        obtain ⟨N, hN⟩ : ∃ N : ByteArray, N = ⟨nm.toArray⟩ := ⟨_, rfl⟩
        have hNl : nm = N.data.toList := by rw [hN]
        simp only [] at c0 c1 c2' c3 hstep hown
        rw [← hN] at c0
        clear hN
        subst hNl
        have HFk := Lib.hid hown
        clear hown
        have x0 : wx.cell? ⟨X, 0, none⟩ = some (.slice a n c) := HRX.out.cell
        have x1 : wx.cell? ⟨X, 1, none⟩ = some (.slice (some ⟨bb, off, none⟩) n2 c2) := HRX.out.cell
        cases ib
        · by_cases hD0 : D.data.toList = []
          · have HI2 : Hid (fInB D.data.toList (l.take (k + 1)) = false) := Lib.hid (by rw [hstep, hD0]; rfl)
            have g1 : D.toList = [] := by rw [ByteArray.toList_eq]; exact hD0
            have g2 : (D.toList == []) = true := by rw [g1]; rfl
            have g3 : D.toList.isEmpty = true := by rw [g1]; rfl
            have g4 : (D.toList != []) = false := by rw [g1]; rfl
            clear hstep hD0
            by_cases hN0 : N.data.toList = []
            · have hN1 := ba_none hN0
              rw [hN1] at c0
              clear hN0
              go_wp2
              go_roundw
              case rel => exact ⟨k + 1, _, false, rfl, by omega, rfl, by go_num, HBR.out, HRX.out, HI2⟩
              case measure => simp [intOf]; omega
            · obtain ⟨y1, y2, y3⟩ := ba_ne hN0
              have HFN : Hid (∀ u, Below w.heap.size w u → Calls Tryz.prog 31 #[.agg #[.slice a n c, .slice (some ⟨bb, off, none⟩) n2 c2], .string N] u (RetB (.tuple #[.int .i64 (k : Int), .bool true]) u)) := Lib.hid fun u hu => by
                have := HFd.out u N hu
                rwa [HFk.out hN0] at this
              clear hN0
              go_wp2_with fail
              first | (go_region_with (go_at_call 31; refine (HFN.out _ (HBR.out.trans (((Below.refl wx.heap.size wx).drew).mono HBR.out.size))).mono ?_; rintro e u ⟨rfl, hb⟩; have hb2 : Below wx.heap.size wx u := ((Below.refl wx.heap.size wx).drew).trans hb)) | fail
              all_goals
                replace HRX := Lib.hid (HRX.out.next hb2)
                replace HBR := Lib.hid (after HBR.out hb2)
                clear hb2 x0 x1 c0 c1 c2' c3
                go_wp2
                go_roundw
                case rel => exact ⟨k + 1, _, false, rfl, by omega, rfl, by go_num, HBR.out, HRX.out, HI2⟩
                case measure => simp [intOf]; omega
          · obtain ⟨w1, w2, w3⟩ := ba_ne hD0
            have hDb : (D.data.toList == []) = false := by rw [beq_eq_false_iff_ne]; exact hD0
            have w4 : (D.toList != []) = true := by rw [bne_iff_ne]; exact w3
            by_cases hND : N = D
            · have HI2 : Hid (fInB D.data.toList (l.take (k + 1)) = true) := Lib.hid (by rw [hstep, hDb, hND]; simp)
              have hN0 : N.data.toList ≠ [] := by rw [hND]; exact hD0
              clear hstep hDb hD0
              subst hND
              obtain ⟨y1, y2, y3⟩ := ba_ne hN0
              have HFN : Hid (∀ u, Below w.heap.size w u → Calls Tryz.prog 31 #[.agg #[.slice a n c, .slice (some ⟨bb, off, none⟩) n2 c2], .string N] u (RetB (.tuple #[.int .i64 (k : Int), .bool true]) u)) := Lib.hid fun u hu => by
                have := HFd.out u N hu
                rwa [HFk.out hN0] at this
              clear hN0
              go_wp2_with fail
              first | (go_region_with (go_at_call 31; refine (HFN.out _ (HBR.out.trans (((Below.refl wx.heap.size wx).drew).mono HBR.out.size))).mono ?_; rintro e u ⟨rfl, hb⟩; have hb2 : Below wx.heap.size wx u := ((Below.refl wx.heap.size wx).drew).trans hb)) | fail
              all_goals
                replace HRX := Lib.hid (HRX.out.next hb2)
                replace HBR := Lib.hid (after HBR.out hb2)
                clear hb2 x0 x1 c0 c1 c2' c3
                go_wp2
                go_roundw
                case rel => exact ⟨k + 1, _, true, rfl, by omega, rfl, by go_num, HBR.out, HRX.out, HI2⟩
                case measure => simp [intOf]; omega
            · have hne : N.data.toList ≠ D.data.toList := fun h => hND (ByteArray.ext (Array.toList_inj.1 h))
              have HI2 : Hid (fInB D.data.toList (l.take (k + 1)) = false) := Lib.hid (by rw [hstep, hDb, beq_eq_false_iff_ne.2 hne]; rfl)
              have v1 : (N.toList == D.toList) = false := by rw [beq_eq_false_iff_ne, ByteArray.toList_eq, ByteArray.toList_eq]; exact hne
              have v2 : ¬ N.toList = D.toList := by rw [ByteArray.toList_eq, ByteArray.toList_eq]; exact hne
              clear hstep hDb hD0 hne hND
              by_cases hN0 : N.data.toList = []
              · have hN1 := ba_none hN0
                rw [hN1] at c0
                clear hN0
                go_wp2
                go_roundw
                case rel => exact ⟨k + 1, _, false, rfl, by omega, rfl, by go_num, HBR.out, HRX.out, HI2⟩
                case measure => simp [intOf]; omega
              · obtain ⟨y1, y2, y3⟩ := ba_ne hN0
                have HFN : Hid (∀ u, Below w.heap.size w u → Calls Tryz.prog 31 #[.agg #[.slice a n c, .slice (some ⟨bb, off, none⟩) n2 c2], .string N] u (RetB (.tuple #[.int .i64 (k : Int), .bool true]) u)) := Lib.hid fun u hu => by
                  have := HFd.out u N hu
                  rwa [HFk.out hN0] at this
                clear hN0
                go_wp2_with fail
                first | (go_region_with (go_at_call 31; refine (HFN.out _ (HBR.out.trans (((Below.refl wx.heap.size wx).drew).mono HBR.out.size))).mono ?_; rintro e u ⟨rfl, hb⟩; have hb2 : Below wx.heap.size wx u := ((Below.refl wx.heap.size wx).drew).trans hb)) | fail
                all_goals
                  replace HRX := Lib.hid (HRX.out.next hb2)
                  replace HBR := Lib.hid (after HBR.out hb2)
                  clear hb2 x0 x1 c0 c1 c2' c3
                  go_wp2
                  go_roundw
                  case rel => exact ⟨k + 1, _, false, rfl, by omega, rfl, by go_num, HBR.out, HRX.out, HI2⟩
                  case measure => simp [intOf]; omega
        · have HI2 : Hid (fInB D.data.toList (l.take (k + 1)) = true) := Lib.hid (by rw [hstep]; rfl)
          clear hstep
          by_cases hN0 : N.data.toList = []
          · have hN1 := ba_none hN0
            rw [hN1] at c0
            clear hN0
            go_wp2
            go_roundw
            case rel => exact ⟨k + 1, _, true, rfl, by omega, rfl, by go_num, HBR.out, HRX.out, HI2⟩
            case measure => simp [intOf]; omega
          · obtain ⟨y1, y2, y3⟩ := ba_ne hN0
            have HFN : Hid (∀ u, Below w.heap.size w u → Calls Tryz.prog 31 #[.agg #[.slice a n c, .slice (some ⟨bb, off, none⟩) n2 c2], .string N] u (RetB (.tuple #[.int .i64 (k : Int), .bool true]) u)) := Lib.hid fun u hu => by
              have := HFd.out u N hu
              rwa [HFk.out hN0] at this
            clear hN0
            go_wp2_with fail
            first | (go_region_with (go_at_call 31; refine (HFN.out _ (HBR.out.trans (((Below.refl wx.heap.size wx).drew).mono HBR.out.size))).mono ?_; rintro e u ⟨rfl, hb⟩; have hb2 : Below wx.heap.size wx u := ((Below.refl wx.heap.size wx).drew).trans hb)) | fail
            all_goals
              replace HRX := Lib.hid (HRX.out.next hb2)
              replace HBR := Lib.hid (after HBR.out hb2)
              clear hb2 x0 x1 c0 c1 c2' c3
              go_wp2
              go_roundw
              case rel => exact ⟨k + 1, _, true, rfl, by omega, rfl, by go_num, HBR.out, HRX.out, HI2⟩
              case measure => simp [intOf]; omega
      · have hlti : ¬ (k : Int) < (n2 : Int) := by omega
        have hib : ib = false := by
          have := HI.out
          rw [List.take_of_length_le (by have := HLn2.out; omega), HIN.out] at this
          exact this.symm
        subst hib
        have x0 : wx.cell? ⟨X, 0, none⟩ = some (.slice a n c) := HRX.out.cell
        have x1 : wx.cell? ⟨X, 1, none⟩ = some (.slice a2 n2 c2) := HRX.out.cell
        go_wp2_with fail
        refine (HG.out _ (HT.out.next HBR.out)).mono ?_
        rintro e u ⟨rfl, hb⟩
        have HB9 := Lib.hid (after HBR.out hb)
        clear hb x0 x1
        go_wp2
        go_ret
        exact retB_bool rfl HB9.out
  · obtain ⟨hD0, p, rfl, hp, hpn⟩ := find_at HF.out
    have hp1 : p < l.length := by rw [HOl.out]; exact hp
    have hpn1 : l[p].name = D.data.toList := by
      have hlo := HOl.out
      subst hlo
      exact hpn
    have hpn2 : p < n2 := by have := HLn2.out; omega
    have hpi : (p : Int) < (n2 : Int) := by omega
    have hpg : ¬ (n2 : Int) ≤ (p : Int) := by omega
    obtain ⟨w1, w2, w3⟩ := ba_ne hD0
    obtain ⟨bb0, off0, hae, hB, hc⟩ := (HS2.out.next HBs.out).cells (HS2.out.ne hpn2)
    obtain ⟨c0, c1, c2', c3⟩ := sy_cells (fun j hj => hc p hp1 j hj)
    rw [hpn1] at c0
    rw [show (⟨D.data.toList.toArray⟩ : ByteArray) = D from ba_back D] at c0
    subst hae
    clear hc hB c1 c2' c3 hp hpn hp1 hpn1 hD0 HF
    go_wp2
    clear x1 c0 w1 w2 w3
    try generalize (decide ((p : Int) < 0) || decide (n2 ≤ p)) = z3
    try generalize decide ((p : Int) < 0) = z1
    try generalize decide (n2 ≤ p) = z2
    clear hpi hpg hpn2
    go_loopw [7, 8] (fun s7 i wr => ∃ (k : Nat) (wx : World) (ib : Bool), wx = wr ∧ k ≤ n2 ∧ s7 = .bool ib ∧ i = .int .i64 k ∧ Below w.heap.size w wx ∧ RB wx X #[.slice a n c, .slice (some ⟨bb0, off0, none⟩) n2 c2] 53 ∧ Hid (fInB D.data.toList (l.take k) = ib)) (fun _ i _ => n2 - (intOf i).toNat)
    case atStart => exact ⟨0, _, false, rfl, by omega, rfl, rfl, HBs.out, HRXs.out, Lib.hid (by unfold fInB; simp)⟩
    case round =>
      clear HBs HRXs
      obtain ⟨k, wx, ib, rfl, hk, rfl, rfl, hbr, hrx, HI⟩ := hrel
      have HBR := Lib.hid hbr
      have HRX := Lib.hid hrx
      clear hbr hrx
      by_cases hlt : k < n2
      · have hlti : (k : Int) < (n2 : Int) := by omega
        have hk1 : k < l.length := by have := HLn2.out; omega
        have hstep := in_step D.data.toList hk1
        rw [HI.out] at hstep
        have hown : l[k].name ≠ [] → findL ob l[k].name = (((k : Nat) : Int), true) := by
          have hlo := HOl.out
          subst hlo
          exact fun h => find_own HQ.out hk1 h
        obtain ⟨bb, off, hbe, hB, hc⟩ := (HS2.out.next HBR.out).cells (HS2.out.ne hlt)
        obtain ⟨c0, c1, c2', c3⟩ := sy_cells (fun j hj => hc k hk1 j hj)
        generalize (l[k]'hk1) = sy at c0 c1 c2' c3 hstep hown
        clear hc hB
        simp only [Option.some.injEq, Addr.mk.injEq, and_true] at hbe
        obtain ⟨hb1, hb2⟩ := hbe
        subst hb1 hb2
        obtain ⟨nm, bi, se, of⟩ := sy
        obtain ⟨N, hN⟩ : ∃ N : ByteArray, N = ⟨nm.toArray⟩ := ⟨_, rfl⟩
        have hNl : nm = N.data.toList := by rw [hN]
        simp only [] at c0 c1 c2' c3 hstep hown
        rw [← hN] at c0
        clear hN
        subst hNl
        have HFk := Lib.hid hown
        clear hown
        have x0 : wx.cell? ⟨X, 0, none⟩ = some (.slice a n c) := HRX.out.cell
        have x1 : wx.cell? ⟨X, 1, none⟩ = some (.slice (some ⟨bb0, off0, none⟩) n2 c2) := HRX.out.cell
        cases ib
        · by_cases hD0 : D.data.toList = []
          · have HI2 : Hid (fInB D.data.toList (l.take (k + 1)) = false) := Lib.hid (by rw [hstep, hD0]; rfl)
            have g1 : D.toList = [] := by rw [ByteArray.toList_eq]; exact hD0
            have g2 : (D.toList == []) = true := by rw [g1]; rfl
            have g3 : D.toList.isEmpty = true := by rw [g1]; rfl
            have g4 : (D.toList != []) = false := by rw [g1]; rfl
            clear hstep hD0
            by_cases hN0 : N.data.toList = []
            · have hN1 := ba_none hN0
              rw [hN1] at c0
              clear hN0
              go_wp2
              go_roundw
              case rel => exact ⟨k + 1, _, false, rfl, by omega, rfl, by go_num, HBR.out, HRX.out, HI2⟩
              case measure => simp [intOf]; omega
            · obtain ⟨y1, y2, y3⟩ := ba_ne hN0
              have HFN : Hid (∀ u, Below w.heap.size w u → Calls Tryz.prog 31 #[.agg #[.slice a n c, .slice (some ⟨bb0, off0, none⟩) n2 c2], .string N] u (RetB (.tuple #[.int .i64 (k : Int), .bool true]) u)) := Lib.hid fun u hu => by
                have := HFd.out u N hu
                rwa [HFk.out hN0] at this
              clear hN0
              go_wp2_with fail
              first | (go_region_with (go_at_call 31; refine (HFN.out _ (HBR.out.trans (((Below.refl wx.heap.size wx).drew).mono HBR.out.size))).mono ?_; rintro e u ⟨rfl, hb⟩; have hb2 : Below wx.heap.size wx u := ((Below.refl wx.heap.size wx).drew).trans hb)) | fail
              all_goals
                replace HRX := Lib.hid (HRX.out.next hb2)
                replace HBR := Lib.hid (after HBR.out hb2)
                clear hb2 x0 x1 c0 c1 c2' c3
                go_wp2
                go_roundw
                case rel => exact ⟨k + 1, _, false, rfl, by omega, rfl, by go_num, HBR.out, HRX.out, HI2⟩
                case measure => simp [intOf]; omega
          · obtain ⟨w1, w2, w3⟩ := ba_ne hD0
            have hDb : (D.data.toList == []) = false := by rw [beq_eq_false_iff_ne]; exact hD0
            have w4 : (D.toList != []) = true := by rw [bne_iff_ne]; exact w3
            by_cases hND : N = D
            · have HI2 : Hid (fInB D.data.toList (l.take (k + 1)) = true) := Lib.hid (by rw [hstep, hDb, hND]; simp)
              have hN0 : N.data.toList ≠ [] := by rw [hND]; exact hD0
              clear hstep hDb hD0
              subst hND
              obtain ⟨y1, y2, y3⟩ := ba_ne hN0
              have HFN : Hid (∀ u, Below w.heap.size w u → Calls Tryz.prog 31 #[.agg #[.slice a n c, .slice (some ⟨bb0, off0, none⟩) n2 c2], .string N] u (RetB (.tuple #[.int .i64 (k : Int), .bool true]) u)) := Lib.hid fun u hu => by
                have := HFd.out u N hu
                rwa [HFk.out hN0] at this
              clear hN0
              go_wp2_with fail
              first | (go_region_with (go_at_call 31; refine (HFN.out _ (HBR.out.trans (((Below.refl wx.heap.size wx).drew).mono HBR.out.size))).mono ?_; rintro e u ⟨rfl, hb⟩; have hb2 : Below wx.heap.size wx u := ((Below.refl wx.heap.size wx).drew).trans hb)) | fail
              all_goals
                replace HRX := Lib.hid (HRX.out.next hb2)
                replace HBR := Lib.hid (after HBR.out hb2)
                clear hb2 x0 x1 c0 c1 c2' c3
                go_wp2
                go_roundw
                case rel => exact ⟨k + 1, _, true, rfl, by omega, rfl, by go_num, HBR.out, HRX.out, HI2⟩
                case measure => simp [intOf]; omega
            · have hne : N.data.toList ≠ D.data.toList := fun h => hND (ByteArray.ext (Array.toList_inj.1 h))
              have HI2 : Hid (fInB D.data.toList (l.take (k + 1)) = false) := Lib.hid (by rw [hstep, hDb, beq_eq_false_iff_ne.2 hne]; rfl)
              have v1 : (N.toList == D.toList) = false := by rw [beq_eq_false_iff_ne, ByteArray.toList_eq, ByteArray.toList_eq]; exact hne
              have v2 : ¬ N.toList = D.toList := by rw [ByteArray.toList_eq, ByteArray.toList_eq]; exact hne
              clear hstep hDb hD0 hne hND
              by_cases hN0 : N.data.toList = []
              · have hN1 := ba_none hN0
                rw [hN1] at c0
                clear hN0
                go_wp2
                go_roundw
                case rel => exact ⟨k + 1, _, false, rfl, by omega, rfl, by go_num, HBR.out, HRX.out, HI2⟩
                case measure => simp [intOf]; omega
              · obtain ⟨y1, y2, y3⟩ := ba_ne hN0
                have HFN : Hid (∀ u, Below w.heap.size w u → Calls Tryz.prog 31 #[.agg #[.slice a n c, .slice (some ⟨bb0, off0, none⟩) n2 c2], .string N] u (RetB (.tuple #[.int .i64 (k : Int), .bool true]) u)) := Lib.hid fun u hu => by
                  have := HFd.out u N hu
                  rwa [HFk.out hN0] at this
                clear hN0
                go_wp2_with fail
                first | (go_region_with (go_at_call 31; refine (HFN.out _ (HBR.out.trans (((Below.refl wx.heap.size wx).drew).mono HBR.out.size))).mono ?_; rintro e u ⟨rfl, hb⟩; have hb2 : Below wx.heap.size wx u := ((Below.refl wx.heap.size wx).drew).trans hb)) | fail
                all_goals
                  replace HRX := Lib.hid (HRX.out.next hb2)
                  replace HBR := Lib.hid (after HBR.out hb2)
                  clear hb2 x0 x1 c0 c1 c2' c3
                  go_wp2
                  go_roundw
                  case rel => exact ⟨k + 1, _, false, rfl, by omega, rfl, by go_num, HBR.out, HRX.out, HI2⟩
                  case measure => simp [intOf]; omega
        · have HI2 : Hid (fInB D.data.toList (l.take (k + 1)) = true) := Lib.hid (by rw [hstep]; rfl)
          clear hstep
          by_cases hN0 : N.data.toList = []
          · have hN1 := ba_none hN0
            rw [hN1] at c0
            clear hN0
            go_wp2
            go_roundw
            case rel => exact ⟨k + 1, _, true, rfl, by omega, rfl, by go_num, HBR.out, HRX.out, HI2⟩
            case measure => simp [intOf]; omega
          · obtain ⟨y1, y2, y3⟩ := ba_ne hN0
            have HFN : Hid (∀ u, Below w.heap.size w u → Calls Tryz.prog 31 #[.agg #[.slice a n c, .slice (some ⟨bb0, off0, none⟩) n2 c2], .string N] u (RetB (.tuple #[.int .i64 (k : Int), .bool true]) u)) := Lib.hid fun u hu => by
              have := HFd.out u N hu
              rwa [HFk.out hN0] at this
            clear hN0
            go_wp2_with fail
            first | (go_region_with (go_at_call 31; refine (HFN.out _ (HBR.out.trans (((Below.refl wx.heap.size wx).drew).mono HBR.out.size))).mono ?_; rintro e u ⟨rfl, hb⟩; have hb2 : Below wx.heap.size wx u := ((Below.refl wx.heap.size wx).drew).trans hb)) | fail
            all_goals
              replace HRX := Lib.hid (HRX.out.next hb2)
              replace HBR := Lib.hid (after HBR.out hb2)
              clear hb2 x0 x1 c0 c1 c2' c3
              go_wp2
              go_roundw
              case rel => exact ⟨k + 1, _, true, rfl, by omega, rfl, by go_num, HBR.out, HRX.out, HI2⟩
              case measure => simp [intOf]; omega
      · have hlti : ¬ (k : Int) < (n2 : Int) := by omega
        have hib : ib = true := by
          have := HI.out
          rw [List.take_of_length_le (by have := HLn2.out; omega), HIN.out] at this
          exact this.symm
        subst hib
        have x0 : wx.cell? ⟨X, 0, none⟩ = some (.slice a n c) := HRX.out.cell
        have x1 : wx.cell? ⟨X, 1, none⟩ = some (.slice (some ⟨bb0, off0, none⟩) n2 c2) := HRX.out.cell
        go_wp2_with fail
        refine (HG.out _ (HT.out.next HBR.out)).mono ?_
        rintro e u ⟨rfl, hb⟩
        have HB9 := Lib.hid (after HBR.out hb)
        clear hb x0 x1
        go_wp2
        go_ret
        exact retB_bool rfl HB9.out
end Go.Proofs.YtmlofdolenmkoaaGreatDoor
