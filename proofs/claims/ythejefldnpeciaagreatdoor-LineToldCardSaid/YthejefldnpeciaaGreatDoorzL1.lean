/- lex: the reader, on. -/
import Derived.Test.YthejefldnpeciaaGreatDoorzL0
import Derived.Test.YthejefldnpeciaaGreatDoorShelf
import Derived.Deep.LoopGhost
import Derived.Shelf.RegionOpen
import Derived.Maps.Own
import Derived.Maps.OwnOps
import Derived.Maps.Keyed
import Derived.Carry
namespace Go.Proofs.YthejefldnpeciaaGreatDoor
set_option linter.unusedVariables false
set_option linter.unusedSimpArgs false
open Go.ChangeShapes Go.WideShapes Go.Deep Go.RowKit

theorem RD.cells {w : World} {p at' : Nat} {rs : List Nat} (h : RD w p rs at') : ∃ a c, w.cell? ⟨p, 0, none⟩ = some (.slice a rs.length c) ∧ w.cell? ⟨p, 1, none⟩ = some (.int .i64 (at' : Int)) ∧ w.frozen? ⟨p, 1, none⟩ = false := by
  obtain ⟨a, c, hp, -⟩ := h
  exact ⟨a, c, by rw [World.cell?, hp]; rfl, by rw [World.cell?, hp]; rfl, by rw [World.frozen?, hp]; rfl⟩
theorem RD.drewN {w : World} {p at' : Nat} {rs : List Nat} (h : RD w p rs at') (n : Nat) : RD (w.drewN n) p rs at' := by
  obtain ⟨a, c, h1, h2⟩ := h
  exact ⟨a, c, h1, h2.below (below_drewN (Below.refl _ _) n)⟩
theorem KP.drewN {w w' : World} {p : Nat} (h : KP p w w') (n : Nat) : KP p w (w'.drewN n) := ⟨h.os, h.tape, h.output, h.size, h.block⟩
/-- What a call that reads hands back. -/
def PeekP (p : Nat) (rs : List Nat) (at' : Nat) (v : Int) (w : World) (e : Ending) (w' : World) : Prop := e = .returned (.int .i64 v) ∧ RD w' p rs at' ∧ KP p w w'
theorem peek0 {w : World} {p at' : Nat} {rs : List Nat} (h : RD w p rs at') (h1 : at' ≤ 1000) (h2 : rs.length ≤ 1000) :
    Calls Tryz.prog 54 #[.pointer (some ⟨p, 0, none⟩), .int .i64 0] w (PeekP p rs at' (peekZ (rs.drop at')) w) := by
  refine (peek_any h 0 (by omega) (by omega)).mono ?_
  rintro e w' ⟨rfl, n, rfl⟩
  exact ⟨rfl, h.drewN n, (KP.refl _ _).drewN n⟩
theorem peek1 {w : World} {p at' : Nat} {rs : List Nat} (h : RD w p rs at') (h1 : at' ≤ 1000) (h2 : rs.length ≤ 1000) :
    Calls Tryz.prog 54 #[.pointer (some ⟨p, 0, none⟩), .int .i64 1] w (PeekP p rs at' (peekZ (rs.drop (at' + 1))) w) := by
  refine (peek_any h 1 (by omega) (by omega)).mono ?_
  rintro e w' ⟨rfl, n, rfl⟩
  exact ⟨rfl, h.drewN n, (KP.refl _ _).drewN n⟩
/-- At a place, behind passing over some. -/
def AtI (p : Nat) (rs : List Nat) (at0 a1 : Nat) (w wl : World) : Prop := at0 ≤ a1 ∧ a1 ≤ rs.length ∧ (rs.drop at0).dropWhile whiR = (rs.drop a1).dropWhile whiR ∧ RD wl p rs a1 ∧ KP p w wl
def MoreP (p : Nat) (rs : List Nat) (at0 : Nat) (w : World) (e : Ending) (w' : World) : Prop :=
  ∃ a1, at0 ≤ a1 ∧ a1 ≤ rs.length ∧ rs.drop a1 = (rs.drop at0).dropWhile whiR ∧ e = .returned (.bool (!stops (rs.drop a1))) ∧ RD w' p rs a1 ∧ KP p w w'
theorem whi_peek {rs : List Nat} {a : Nat} (h : whiI (peekZ (rs.drop a)) = true) : a < rs.length ∧ (rs.drop a).dropWhile whiR = (rs.drop (a + 1)).dropWhile whiR := by
  by_cases hl : a < rs.length
  · refine ⟨hl, ?_⟩
    rw [peekZ_at hl] at h
    rw [drop_cons hl, List.dropWhile_cons_of_pos (p := whiR) h]
  · rw [peekZ_end (by omega)] at h
    exact absurd h (by decide)
theorem whi_stop {rs : List Nat} {a : Nat} (h : whiI (peekZ (rs.drop a)) = false) : (rs.drop a).dropWhile whiR = rs.drop a := by
  by_cases hl : a < rs.length
  · rw [peekZ_at hl] at h
    rw [drop_cons hl, List.dropWhile_cons_of_neg (by unfold whiR; rw [h]; decide)]
  · rw [List.drop_eq_nil_of_le (by omega)]; rfl
theorem wrap_at (x : Nat) (h : x ≤ 1001) : IntKind.i64.wrap ((x : Int) + 1) = ((x + 1 : Nat) : Int) := by rw [IntKind.wrap_i64]; omega
theorem stops_yes {rs : List Nat} {a : Nat} (h0 : (peekZ (rs.drop a) == 47) = true) (h1 : (peekZ (rs.drop (a + 1)) == 47) = true) : stops (rs.drop a) = true := by
  rw [beq_iff_eq] at h0 h1
  have l0 : a < rs.length := by
    apply Classical.byContradiction; intro hn
    rw [peekZ_end (by omega)] at h0; cases h0
  have l1 : a + 1 < rs.length := by
    apply Classical.byContradiction; intro hn
    rw [peekZ_end (by omega)] at h1; cases h1
  rw [peekZ_at l0] at h0
  rw [peekZ_at l1] at h1
  have e0 : rs[a] = 47 := by omega
  have e1 : rs[a + 1] = 47 := by omega
  unfold stops
  rw [drop_cons l0, drop_cons l1, e0, e1]
  rfl
theorem stops_no0 {rs : List Nat} {a : Nat} (h0 : (peekZ (rs.drop a) == 47) = false) : stops (rs.drop a) = !decide (a < rs.length) := by
  by_cases l0 : a < rs.length
  · rw [peekZ_at l0, beq_eq_false_iff_ne] at h0
    have e0 : rs[a] ≠ 47 := by omega
    rw [drop_cons l0, decide_eq_true l0]
    generalize rs[a] = x at e0
    unfold stops
    simp [e0]
  · rw [List.drop_eq_nil_of_le (by omega), decide_eq_false l0]; rfl
theorem stops_no1 {rs : List Nat} {a : Nat} (h1 : (peekZ (rs.drop (a + 1)) == 47) = false) : stops (rs.drop a) = !decide (a < rs.length) := by
  by_cases l0 : a < rs.length
  · rw [decide_eq_true l0]
    by_cases l1 : a + 1 < rs.length
    · rw [peekZ_at l1, beq_eq_false_iff_ne] at h1
      have e1 : rs[a + 1] ≠ 47 := by omega
      rw [drop_cons l0, drop_cons l1]
      generalize rs[a] = x
      generalize rs[a + 1] = y at e1
      unfold stops
      simp [e1]
    · have e : rs.drop (a + 1) = [] := List.drop_eq_nil_of_le (by omega)
      rw [drop_cons l0, e]
      unfold stops
      simp
  · rw [List.drop_eq_nil_of_le (by omega), decide_eq_false l0]; rfl
set_option maxRecDepth 100000 in
set_option maxHeartbeats 2000000 in
theorem more_any {w : World} {p at0 : Nat} {rs : List Nat} (h : RD w p rs at0) (h1 : at0 ≤ rs.length) (h2 : rs.length ≤ 300) :
    Calls Tryz.prog 28 #[.pointer (some ⟨p, 0, none⟩)] w (MoreP p rs at0 w) := by
  have HI := Lib.hid (show AtI p rs at0 at0 w w from ⟨Nat.le_refl _, h1, rfl, h, KP.refl _ _⟩)
  have HL := Lib.hid h2
  clear h h1 h2
  go_enter Tryz.func28, Tryz.ntmps28
  go_wp2
  go_loopg [] (rs.length - at0) (fun k wl => ∃ a1, Hid (AtI p rs at0 a1 w wl) ∧ Hid (k = rs.length - a1))
  case atStart => exact ⟨at0, HI, Lib.hid rfl⟩
  case round =>
    obtain ⟨a1, HA, HK⟩ := hrel
    clear HI
    obtain ⟨q1, q2, q3, hR, hK⟩ := HA.out
    have HP : Hid (∀ u, RD u p rs a1 → Calls Tryz.prog 54 #[.pointer (some ⟨p, 0, none⟩), .int .i64 0] u (PeekP p rs a1 (peekZ (rs.drop a1)) u)) := Lib.hid fun u hu => peek0 hu (by have := HL.out; omega) (by have := HL.out; omega)
    have HP1 : Hid (∀ u, RD u p rs a1 → Calls Tryz.prog 54 #[.pointer (some ⟨p, 0, none⟩), .int .i64 1] u (PeekP p rs a1 (peekZ (rs.drop (a1 + 1))) u)) := Lib.hid fun u hu => peek1 hu (by have := HL.out; omega) (by have := HL.out; omega)
    have HR := Lib.hid hR
    have HQ := Lib.hid (And.intro q1 (And.intro q2 (And.intro q3 hK)))
    have HW := Lib.hid (wrap_at a1 (by have := HL.out; omega))
    clear q1 q2 q3 hR hK HA
    obtain ⟨v, hv⟩ : ∃ v, v = peekZ (rs.drop a1) := ⟨_, rfl⟩
    obtain ⟨v1, hv1⟩ : ∃ v, v = peekZ (rs.drop (a1 + 1)) := ⟨_, rfl⟩
    rw [← hv] at HP
    rw [← hv1] at HP1
    have HV := Lib.hid hv
    have HV1 := Lib.hid hv1
    clear hv hv1
    cases c : whiI v
    · have HS : Hid (rs.drop a1 = (rs.drop at0).dropWhile whiR) := Lib.hid (by rw [HQ.out.2.2.1]; exact (whi_stop (by rw [← HV.out]; exact c)).symm)
      go_wp2_with fail
      refine (HP.out _ HR.out).mono ?_
      rintro e u1 ⟨rfl, hR, hK⟩
      have HR1 := Lib.hid hR
      have HK1 := Lib.hid (HQ.out.2.2.2.trans hK)
      clear hR hK
      go_wp2_with fail
      refine (isWhite_any _ _).mono ?_
      rintro e w' ⟨rfl, rfl⟩
      cases d : (v == 47)
      · have HD : Hid (stops (rs.drop a1) = !decide (a1 < rs.length)) := Lib.hid (stops_no0 (by rw [← HV.out]; exact d))
        go_wp2_with fail
        refine (HP.out _ HR1.out).mono ?_
        rintro e u2 ⟨rfl, hR, hK⟩
        have HR2 := Lib.hid hR
        have HK2 := Lib.hid (HK1.out.trans hK)
        obtain ⟨a, cc, c0, c1, -⟩ := hR.cells
        clear hR hK
        obtain ⟨nn, hnn⟩ : ∃ nn, nn = rs.length := ⟨_, rfl⟩
        have HN := Lib.hid hnn
        rw [← hnn] at c0
        clear hnn
        go_wp2
        go_quiet (fail)
        go_wp2
        go_ret
        exact ⟨a1, HQ.out.1, HQ.out.2.1, HS.out, by rw [HD.out, Bool.not_not, ← HN.out]; simp, HR2.out.drewN _, KP.drewN HK2.out _⟩
      · cases f : (v1 == 47)
        · have HD : Hid (stops (rs.drop a1) = !decide (a1 < rs.length)) := Lib.hid (stops_no1 (by rw [← HV1.out]; exact f))
          go_wp2_with fail
          refine (HP.out _ HR1.out).mono ?_
          rintro e u2 ⟨rfl, hR, hK⟩
          have HR2 := Lib.hid hR
          have HK2 := Lib.hid (HK1.out.trans hK)
          clear hR hK
          go_wp2_with fail
          refine (HP1.out _ HR2.out).mono ?_
          rintro e u3 ⟨rfl, hR, hK⟩
          have HR3 := Lib.hid hR
          have HK3 := Lib.hid (HK2.out.trans hK)
          obtain ⟨a, cc, c0, c1, -⟩ := hR.cells
          clear hR hK
          obtain ⟨nn, hnn⟩ : ∃ nn, nn = rs.length := ⟨_, rfl⟩
          have HN := Lib.hid hnn
          rw [← hnn] at c0
          clear hnn
          go_wp2
          go_quiet (fail)
          go_wp2
          go_ret
          exact ⟨a1, HQ.out.1, HQ.out.2.1, HS.out, by rw [HD.out, Bool.not_not, ← HN.out]; simp, HR3.out.drewN _, KP.drewN HK3.out _⟩
        · have HD : Hid (stops (rs.drop a1) = true) := Lib.hid (stops_yes (by rw [← HV.out]; exact d) (by rw [← HV1.out]; exact f))
          go_wp2_with fail
          refine (HP.out _ HR1.out).mono ?_
          rintro e u2 ⟨rfl, hR, hK⟩
          have HR2 := Lib.hid hR
          have HK2 := Lib.hid (HK1.out.trans hK)
          clear hR hK
          go_wp2_with fail
          refine (HP1.out _ HR2.out).mono ?_
          rintro e u3 ⟨rfl, hR, hK⟩
          have HR3 := Lib.hid hR
          have HK3 := Lib.hid (HK2.out.trans hK)
          clear hR hK
          go_wp2
          go_ret
          exact ⟨a1, HQ.out.1, HQ.out.2.1, HS.out, by rw [HD.out]; rfl, HR3.out, HK3.out⟩
    · have HS : Hid (a1 < rs.length ∧ (rs.drop a1).dropWhile whiR = (rs.drop (a1 + 1)).dropWhile whiR) := Lib.hid (whi_peek (by rw [← HV.out]; exact c))
      go_wp2_with fail
      refine (HP.out _ HR.out).mono ?_
      rintro e u1 ⟨rfl, hR, hK⟩
      have HR1 := Lib.hid hR
      have HK1 := Lib.hid (HQ.out.2.2.2.trans hK)
      obtain ⟨a, cc, c0, c1, f1⟩ := hR.cells
      clear hR hK
      go_wp2_with fail
      refine (isWhite_any _ _).mono ?_
      rintro e w' ⟨rfl, rfl⟩
      have hw := HW.out
      go_wp2
      go_roundg (rs.length - (a1 + 1))
      case measure => have := HS.out.1; have := HK.out; omega
      case rel =>
        refine ⟨a1 + 1, Lib.hid ⟨by have := HQ.out.1; omega, HS.out.1, HQ.out.2.2.1.trans HS.out.2, ?_, ?_⟩, Lib.hid rfl⟩
        · exact HR1.out.step _
        · exact HK1.out.trans (KP.step _ _ _ _)
open Go.ChangeShapes Go.WideShapes Go.Deep Go.RowKit

theorem KP.trans' {p : Nat} {a b c : World} (h : KP p a b) (k : KP p b c) : KP p a c := h.trans k
theorem iKey : Maps.Keyed Tryz.prog 3 := Maps.int_keyed Tryz.underlying3
theorem iKeyOf {k : Int} (h : (Lit.int .i64 k).wf = true) : keyOf Tryz.prog 3 (.int .i64 k) = some (.int .i64 k) := Maps.keyOf_int_mk Tryz.underlying3 h
theorem zero_int (w : World) : (zeroValue 3).run Tryz.prog w = .ok (.int .i64 0) w := by kernel_rfl
abbrev i64ok (k : Int) : Prop := -9223372036854775808 ≤ k ∧ k ≤ 9223372036854775807
theorem i64_wf {k : Int} (h : i64ok k) : (Lit.int .i64 k).wf = true := by simp [Lit.wf, IntKind.min, IntKind.max, IntKind.bits, IntKind.signed]; omega
def pairV (p : Int × Int) : Value × Value := (.int .i64 p.1, .int .i64 p.2)
/-- Block b is a map that has just these pairs. -/
def IM (w : World) (b : Nat) (l : List (Int × Int)) : Prop := ∃ es clock, w.heap[b]? = some (.map es clock) ∧ es.toList.map (fun e => (e.key, e.val)) = l.map pairV
theorem im_key {l : List (Int × Int)} {es : Array MapEntry} (h : es.toList.map (fun e => (e.key, e.val)) = l.map pairV) {e : MapEntry} (he : e ∈ es.toList) : ∃ p ∈ l, e.key = .int .i64 p.1 ∧ e.val = .int .i64 p.2 := by
  have : (e.key, e.val) ∈ es.toList.map (fun e => (e.key, e.val)) := List.mem_map.2 ⟨e, he, rfl⟩
  rw [h] at this
  obtain ⟨p, hp, hh⟩ := List.mem_map.1 this
  simp only [pairV, Prod.mk.injEq] at hh
  exact ⟨p, hp, hh.1.symm, hh.2.symm⟩
theorem im_keys {l : List (Int × Int)} {es : Array MapEntry} (h : es.toList.map (fun e => (e.key, e.val)) = l.map pairV) (hg : ∀ p ∈ l, i64ok p.1) : ∀ e ∈ es.toList, ∃ k, keyOf Tryz.prog 3 e.key = some k := by
  intro e he
  obtain ⟨p, hp, hk, -⟩ := im_key h he
  rw [hk]
  exact ⟨_, iKeyOf (i64_wf (hg p hp))⟩
theorem im_no {l : List (Int × Int)} {b : Nat} {w : World} (h : IM w b l) (hg : ∀ p ∈ l, i64ok p.1) {k : Int} (hk : i64ok k) (hn : ∀ p ∈ l, p.1 ≠ k) :
    (Instr.lookup 149 (.map (some b)) (.int .i64 k) true).run Tryz.prog w = .ok (.tuple #[.int .i64 0, .bool false]) w := by
  obtain ⟨es, clock, hb, he⟩ := h
  have hkey := iKeyOf (i64_wf hk)
  rcases iKey.find w hkey es.toList (im_keys he hg) with ⟨h1, -⟩ | ⟨j, e, h1, h2, h3⟩
  · simp [Instr.lookup, run_underlying Tryz.underlying149, MapKept.run_getObj_map hb, iKey.check w _ hkey, h1, zero_int, Result.andThen]
  · obtain ⟨p, hp, hpk, -⟩ := im_key he (List.mem_of_getElem? h2)
    rw [h3] at hpk
    simp only [Value.int.injEq, true_and] at hpk
    exact absurd hpk.symm (hn p hp)
theorem im_yes {l : List (Int × Int)} {b : Nat} {w : World} (h : IM w b l) (hg : ∀ p ∈ l, i64ok p.1) {k v : Int} (hk : (k, v) ∈ l) (hu : ∀ p ∈ l, p.1 = k → p.2 = v) :
    (Instr.lookup 149 (.map (some b)) (.int .i64 k) true).run Tryz.prog w = .ok (.tuple #[.int .i64 v, .bool true]) w := by
  obtain ⟨es, clock, hb, he⟩ := h
  have hkey := iKeyOf (i64_wf (hg _ hk))
  rcases iKey.find w hkey es.toList (im_keys he hg) with ⟨h1, h2⟩ | ⟨j, e, h1, h2, h3⟩
  · exfalso
    have : pairV (k, v) ∈ l.map pairV := List.mem_map.2 ⟨_, hk, rfl⟩
    rw [← he] at this
    obtain ⟨e, hee, heq⟩ := List.mem_map.1 this
    simp only [pairV, Prod.mk.injEq] at heq
    exact h2 e hee heq.1
  · obtain ⟨p, hp, hpk, hpv⟩ := im_key he (List.mem_of_getElem? h2)
    rw [h3] at hpk
    simp only [Value.int.injEq, true_and] at hpk
    have hv := hu p hp hpk.symm
    rw [hv] at hpv
    simp [Instr.lookup, run_underlying Tryz.underlying149, MapKept.run_getObj_map hb, iKey.check w _ hkey, h1, hpv, Result.andThen]
theorem im_put {l : List (Int × Int)} {b : Nat} {w : World} (h : IM w b l) (hg : ∀ p ∈ l, i64ok p.1) (k v : Int) (hk : i64ok k) (hn : ∀ p ∈ l, p.1 ≠ k) :
    ∃ w', (Instr.mapUpdate 149 (.map (some b)) (.int .i64 k) (.int .i64 v)).run Tryz.prog w = .ok () w' ∧ IM w' b (l ++ [(k, v)]) ∧ w.grownBy w' (some b) := by
  obtain ⟨es, clock, hb, he⟩ := h
  have hkey := iKeyOf (i64_wf hk)
  rcases iKey.find w hkey es.toList (im_keys he hg) with ⟨h1, -⟩ | ⟨j, e, h1, h2, h3⟩
  · refine ⟨ChangeMaps.setBlock w b (.map (es.push ⟨.int .i64 k, .int .i64 v, clock⟩) (clock + 1)), ?_, ⟨es.push ⟨.int .i64 k, .int .i64 v, clock⟩, clock + 1, ?_, ?_⟩, ?_⟩
    · simp [Instr.mapUpdate, run_underlying Tryz.underlying149, MapKept.run_getObj_map hb, iKey.check w false hkey, h1, MapKept.run_setObj_map _ hb, Result.andThen, ChangeMaps.setBlock]
    · have := lt_of_block hb
      simp [ChangeMaps.setBlock, this]
    · rw [Array.toList_push, List.map_append, he, List.map_append]; rfl
    · refine ⟨rfl, rfl, rfl, by simp [ChangeMaps.setBlock], fun i hi hne => ?_⟩
      simp only [ChangeMaps.setBlock]
      rw [Array.getElem?_setIfInBounds_ne (fun e => hne (by rw [e]))]
  · obtain ⟨p, hp, hpk, -⟩ := im_key he (List.mem_of_getElem? h2)
    rw [h3] at hpk
    simp only [Value.int.injEq, true_and] at hpk
    exact absurd hpk.symm (hn p hp)
def meantT : List (Int × Int) := [(110, 10), (116, 9), (48, 0), (92, 92), (34, 34), (39, 39)]
set_option maxRecDepth 100000 in
set_option maxHeartbeats 1000000 in
theorem meant_any (w : World) : Calls Tryz.prog 97 #[] w fun e w' => e = .returned (.map (some w.heap.size)) ∧ IM w' w.heap.size meantT ∧ Below w.heap.size w w' := by
  obtain ⟨b, hb⟩ : ∃ b, b = w.heap.size := ⟨_, rfl⟩
  have I0 : IM (w.alloc (.map #[] 0)) b [] := ⟨#[], 0, by rw [hb]; exact (MapKept.heap_alloc w _).1, rfl⟩
  have B0 : Below b w (w.alloc (.map #[] 0)) := by rw [hb]; exact (Below.refl _ _).alloc (Nat.le_refl _) _
  obtain ⟨w1, e1, I1, g1⟩ := im_put I0 (by decide) 110 10 (by decide) (by decide)
  obtain ⟨w2, e2, I2, g2⟩ := im_put I1 (by decide) 116 9 (by decide) (by decide)
  obtain ⟨w3, e3, I3, g3⟩ := im_put I2 (by decide) 48 0 (by decide) (by decide)
  obtain ⟨w4, e4, I4, g4⟩ := im_put I3 (by decide) 92 92 (by decide) (by decide)
  obtain ⟨w5, e5, I5, g5⟩ := im_put I4 (by decide) 34 34 (by decide) (by decide)
  obtain ⟨w6, e6, I6, g6⟩ := im_put I5 (by decide) 39 39 (by decide) (by decide)
  have hg := ((((g1.trans g2).trans g3).trans g4).trans g5).trans g6
  have HI := Lib.hid I6
  have HG := Lib.hid (B0.grown hg (by rw [hb]; simp) (fun k hk => by cases hk; exact Nat.le_refl _))
  have HB := Lib.hid hb
  rw [hb] at e1 e2 e3 e4 e5 e6
  clear I0 B0 I1 I2 I3 I4 I5 I6 g1 g2 g3 g4 g5 g6 hg hb
  have hmm := @run_makeMap Tryz.prog
  go_enter Tryz.func97, Tryz.ntmps97
  go_wp2
  go_ret
  exact ⟨rfl, HB.out ▸ HI.out, HB.out ▸ HG.out⟩

theorem meantT_ok : ∀ p ∈ meantT, i64ok p.1 := by decide
theorem meant_yes {c v : Nat} (h : meantL c = some v) : ((c : Int), (v : Int)) ∈ meantT ∧ ∀ p ∈ meantT, p.1 = (c : Int) → p.2 = (v : Int) := by
  unfold meantL at h
  split at h
  · rename_i e; cases h; subst e; decide
  split at h
  · rename_i e; cases h; subst e; decide
  split at h
  · rename_i e; cases h; subst e; decide
  split at h
  · rename_i e; cases h; subst e; decide
  split at h
  · rename_i e; cases h; subst e; decide
  split at h
  · rename_i e; cases h; subst e; decide
  · cases h
theorem meant_no {c : Nat} (h : meantL c = none) : ∀ p ∈ meantT, p.1 ≠ (c : Int) := by
  unfold meantL at h
  repeat (split at h; · cases h)
  intro p hp
  unfold meantT at hp
  simp only [List.mem_cons, List.not_mem_nil, or_false] at hp
  rcases hp with rfl | rfl | rfl | rfl | rfl | rfl <;> simp only [ne_eq] <;> omega
theorem meant_end : ∀ p ∈ meantT, p.1 ≠ (-1 : Int) := by decide
/-- What one hands back. -/
def OneP (p : Nat) (rs : List Nat) (q at0 : Nat) (w : World) (e : Ending) (w' : World) : Prop :=
  match oneL q (rs.drop at0) with
  | some (v, t) => ∃ a1, a1 ≤ rs.length ∧ rs.drop a1 = t ∧ e = .returned (.tuple #[.int .i64 (v : Int), .bool true]) ∧ RD w' p rs a1 ∧ KP p w w'
  | none => ∃ (v : Int) (a1 : Nat), e = .returned (.tuple #[.int .i64 v, .bool false]) ∧ RD w' p rs a1 ∧ KP p w w'
theorem OneP.some_mk {p : Nat} {rs : List Nat} {q at0 : Nat} {w : World} {e : Ending} {w' : World} {v : Nat} {t : List Nat} (h : oneL q (rs.drop at0) = some (v, t)) {a1 : Nat} (h1 : a1 ≤ rs.length) (h2 : rs.drop a1 = t)
    (h3 : e = .returned (.tuple #[.int .i64 (v : Int), .bool true])) (h4 : RD w' p rs a1) (h5 : KP p w w') : OneP p rs q at0 w e w' := by
  unfold OneP; rw [h]; exact ⟨a1, h1, h2, h3, h4, h5⟩
theorem OneP.none_mk {p : Nat} {rs : List Nat} {q at0 : Nat} {w : World} {e : Ending} {w' : World} (h : oneL q (rs.drop at0) = none) (v : Int) {a1 : Nat}
    (h3 : e = .returned (.tuple #[.int .i64 v, .bool false])) (h4 : RD w' p rs a1) (h5 : KP p w w') : OneP p rs q at0 w e w' := by
  unfold OneP; rw [h]; exact ⟨v, a1, h3, h4, h5⟩
theorem oneL_nil {q : Nat} {l : List Nat} (h : l = []) : oneL q l = none := by subst h; rfl
theorem IM.kept {w w' : World} {b p : Nat} {l : List (Int × Int)} (h : IM w b l) (hk : KP p w w') (hne : b ≠ p) : IM w' b l := by
  obtain ⟨es, clock, h1, h2⟩ := h
  exact ⟨es, clock, (hk.block b (lt_of_block h1) (fun e => hne (by cases e; rfl))).trans h1, h2⟩
theorem peek_i64 {l : List Nat} (h : ∀ r ∈ l, VR r) (k : Nat) : i64ok (peekZ (l.drop k)) := by
  by_cases hl : k < l.length
  · rw [peekZ_at hl]
    have := h _ (List.getElem_mem hl)
    unfold VR at this
    constructor <;> omega
  · rw [peekZ_end (by omega)]; decide
set_option maxRecDepth 100000 in
set_option maxHeartbeats 2000000 in
theorem one_any {w : World} {p at0 : Nat} {rs : List Nat} (q : Nat) (h : RD w p rs at0) (h1 : at0 ≤ rs.length) (h2 : rs.length ≤ 300) (hvr : ∀ r ∈ rs, VR r) :
    Calls Tryz.prog 81 #[.pointer (some ⟨p, 0, none⟩), .int .i64 (q : Int)] w (OneP p rs q at0 w) := by
  obtain ⟨v, hv⟩ : ∃ v, v = peekZ (rs.drop at0) := ⟨_, rfl⟩
  have HP := Lib.hid (peek0 h (by omega) (by omega))
  rw [← hv] at HP
  have HV := Lib.hid hv
  obtain ⟨m, hm⟩ : ∃ m, m = at0 + 1 := ⟨_, rfl⟩
  have HW : Hid (IntKind.i64.wrap ((at0 : Int) + 1) = (m : Int)) := Lib.hid (by rw [wrap_at at0 (by omega), hm])
  have HM := Lib.hid hm
  have HL := Lib.hid (And.intro h1 h2)
  have HVR := Lib.hid hvr
  clear hv h h1 h2 hm hvr
  by_cases c : (v != 92) = true
  · -- no backslash
    have HC := Lib.hid c
    cases d : decide (32 ≤ v)
    · have HN : Hid (oneL q (rs.drop at0) = none) := Lib.hid (by
        have hv := HV.out
        by_cases hl : at0 < rs.length
        · rw [peekZ_at hl] at hv
          rw [drop_cons hl]
          unfold oneL
          simp only
          have d' := of_decide_eq_false d
          have c' : v ≠ 92 := by rw [bne_iff_ne] at c; exact c
          rw [if_neg (by omega), if_neg (by omega)]
        · exact oneL_nil (List.drop_eq_nil_of_le (by omega)))
      have d' := of_decide_eq_false d
      clear d
      go_enter Tryz.func81, Tryz.ntmps81
      go_wp2_with fail
      refine (HP.out).mono ?_
      rintro e u1 ⟨rfl, hR, hK⟩
      have HR1 := Lib.hid hR
      have HK1 := Lib.hid hK
      obtain ⟨a, cc, c0, c1, f1⟩ := hR.cells
      clear hR hK
      have hw := HW.out
      go_wp2
      go_ret2
      exact OneP.none_mk HN.out _ rfl (HR1.out.step _) (HK1.out.trans (KP.step _ _ _ _))
    · have d' := of_decide_eq_true d
      clear d
      have hl : at0 < rs.length := by
        apply Classical.byContradiction; intro hn
        have hv := HV.out
        rw [peekZ_end (by omega)] at hv; omega
      obtain ⟨x, hx⟩ : ∃ x, x = rs[at0] := ⟨_, rfl⟩
      have hv : v = (x : Int) := by rw [HV.out, peekZ_at hl, hx]
      have hD : rs.drop at0 = x :: rs.drop m := by rw [drop_cons hl, hx, HM.out]
      have HLT := Lib.hid hl
      clear hx hl
      subst hv
      cases f : (x : Int) != (q : Int)
      · have HN : Hid (oneL q (rs.drop at0) = none) := Lib.hid (by
          rw [hD]
          unfold oneL
          simp only
          rw [bne_iff_ne] at c
          rw [bne_eq_false_iff_eq] at f
          rw [if_neg (by omega), if_neg (by omega)])
        clear hD
        go_enter Tryz.func81, Tryz.ntmps81
        go_wp2_with fail
        refine (HP.out).mono ?_
        rintro e u1 ⟨rfl, hR, hK⟩
        have HR1 := Lib.hid hR
        have HK1 := Lib.hid hK
        obtain ⟨a, cc, c0, c1, f1⟩ := hR.cells
        clear hR hK
        have hw := HW.out
        go_wp2
        go_ret2
        exact OneP.none_mk HN.out _ rfl (HR1.out.step _) (HK1.out.trans (KP.step _ _ _ _))
      · have HN : Hid (oneL q (rs.drop at0) = some (x, rs.drop m)) := Lib.hid (by
          rw [hD]
          rw [bne_iff_ne] at c f
          exact one_self _ (by omega) (by omega) (by omega))
        clear hD
        go_enter Tryz.func81, Tryz.ntmps81
        go_wp2_with fail
        refine (HP.out).mono ?_
        rintro e u1 ⟨rfl, hR, hK⟩
        have HR1 := Lib.hid hR
        have HK1 := Lib.hid hK
        obtain ⟨a, cc, c0, c1, f1⟩ := hR.cells
        clear hR hK
        have hw := HW.out
        go_wp2
        go_ret2
        exact OneP.some_mk HN.out (a1 := m) (by have := HLT.out; have := HM.out; omega) rfl rfl (HR1.out.step _) (HK1.out.trans (KP.step _ _ _ _))
  · -- a backslash
    have hv92 : v = 92 := by
      apply Classical.byContradiction; intro hn
      exact c (by rw [bne_iff_ne]; exact hn)
    clear c
    subst hv92
    have hl : at0 < rs.length := by
      apply Classical.byContradiction; intro hn
      have hv := HV.out
      rw [peekZ_end (by omega)] at hv; cases hv
    have hD : rs.drop at0 = 92 :: rs.drop m := by
      have hv := HV.out
      rw [peekZ_at hl] at hv
      rw [drop_cons hl, HM.out]
      congr 1
      omega
    have hO : oneL q (rs.drop at0) = escL (rs.drop m) := by
      rw [hD]; unfold oneL; simp only [if_true]
    obtain ⟨r, hr⟩ : ∃ r, r = peekZ (rs.drop m) := ⟨_, rfl⟩
    have HR := Lib.hid hr
    have HO := Lib.hid hO
    have HP2 : Hid (∀ u, RD u p rs m → Calls Tryz.prog 54 #[.pointer (some ⟨p, 0, none⟩), .int .i64 0] u (PeekP p rs m r u)) := Lib.hid fun u hu => by
      rw [hr]; exact peek0 hu (by have := HL.out; have := HM.out; omega) (by have := HL.out; omega)
    obtain ⟨m2, hm2⟩ : ∃ m2, m2 = m + 1 := ⟨_, rfl⟩
    have HW2 : Hid (IntKind.i64.wrap ((m : Int) + 1) = (m2 : Int)) := Lib.hid (by rw [wrap_at m (by have := HL.out; have := HM.out; omega), hm2])
    have HM2 := Lib.hid hm2
    clear hm2
    have hro : i64ok r := by rw [hr]; exact peek_i64 HVR.out m
    -- what the table says of it
    have hT : (∃ (t : List Nat) (k x : Nat), r = (k : Int) ∧ rs.drop m = k :: t ∧ meantL k = some x) ∨ (escL (rs.drop m) = none ∧ ∀ p ∈ meantT, p.1 ≠ r) := by
      by_cases hl1 : m < rs.length
      · cases hm : meantL rs[m] with
        | some x => exact .inl ⟨_, _, x, by rw [hr, peekZ_at hl1], drop_cons hl1, hm⟩
        | none =>
          refine .inr ⟨?_, ?_⟩
          · rw [drop_cons hl1]; unfold escL; simp only [hm]
          · rw [hr, peekZ_at hl1]; exact meant_no hm
      · refine .inr ⟨?_, ?_⟩
        · rw [List.drop_eq_nil_of_le (by omega)]; rfl
        · rw [hr, peekZ_end (by omega)]; exact meant_end
    have HLT := Lib.hid hl
    clear hO hD hr hl
    have HRO := Lib.hid hro
    clear hro
    have hT2 : ∃ (y : Int) (ok : Bool), (∀ (u : World) (b : Nat), IM u b meantT → (Instr.lookup 149 (.map (some b)) (.int .i64 r) true).run Tryz.prog u = .ok (.tuple #[.int .i64 y, .bool ok]) u) ∧
        ((ok = true ∧ ∃ x : Nat, y = x ∧ oneL q (rs.drop at0) = some (x, rs.drop m2) ∧ m2 ≤ rs.length) ∨ (ok = false ∧ oneL q (rs.drop at0) = none)) := by
      rcases hT with ⟨t, k, x, hrk, ht, hm⟩ | ⟨hn, hne⟩
      · refine ⟨x, true, fun u b hI => ?_, .inl ⟨rfl, x, rfl, ?_, ?_⟩⟩
        · rw [hrk]; exact im_yes hI meantT_ok (meant_yes hm).1 (meant_yes hm).2
        · have hd : rs.drop m2 = t := by
            have := congrArg List.tail ht
            rw [List.tail_drop] at this
            rw [HM2.out]; exact this
          rw [HO.out, ht, hd]
          unfold escL
          simp only [hm]
        · have h0 := congrArg List.length ht
          rw [List.length_drop, List.length_cons] at h0
          have := HM2.out; omega
      · exact ⟨0, false, fun u b hI => im_no hI meantT_ok HRO.out hne, .inr ⟨rfl, by rw [HO.out, hn]⟩⟩
    obtain ⟨y, ok, hlook, hres⟩ := hT2
    clear hT
    have HLK := Lib.hid hlook
    have HRES := Lib.hid hres
    clear hlook hres
    go_enter Tryz.func81, Tryz.ntmps81
    go_wp2_with fail
    refine (HP.out).mono ?_
    rintro e u1 ⟨rfl, hR, hK⟩
    have HR1 := Lib.hid (hR.step m)
    have HK1 := Lib.hid (KP.trans' hK (KP.step p u1 1 (.int .i64 (m : Int))))
    obtain ⟨a, cc, c0, c1, f1⟩ := hR.cells
    clear hR hK
    have hw := HW.out
    go_wp2_with fail
    clear c0 c1 f1 hw
    generalize u1.setCell ⟨p, 1, none⟩ (.int .i64 (m : Int)) = W2 at HR1 HK1 ⊢
    refine (meant_any W2).mono ?_
    rintro e u2 ⟨rfl, hI, hB⟩
    obtain ⟨b, hb⟩ : ∃ b, b = W2.heap.size := ⟨_, rfl⟩
    rw [← hb] at hI hB ⊢
    have HR2 := Lib.hid (HR1.out.below hB (by rw [hb]; exact HR1.out.lt))
    have HK2 := Lib.hid (KP.trans' HK1.out (KP.of_below (hb ▸ hB)))
    have HI := Lib.hid hI
    have HNE : Hid (b ≠ p) := Lib.hid (by have := HR1.out.lt; omega)
    clear hI hB hb
    go_wp2_with fail
    refine (HP2.out u2 HR2.out).mono ?_
    rintro e u3 ⟨rfl, hR, hK⟩
    have hlk := HLK.out u3 b (HI.out.kept hK HNE.out)
    have HR3 := Lib.hid (hR.step m2)
    have HK3 := Lib.hid (KP.trans' (KP.trans' HK2.out hK) (KP.step p u3 1 (.int .i64 (m2 : Int))))
    obtain ⟨a, cc, c0, c1, f1⟩ := hR.cells
    clear hR hK
    have hw := HW2.out
    go_wp2
    go_ret2
    rcases HRES.out with ⟨rfl, x, rfl, h1, h2⟩ | ⟨rfl, h1⟩
    · exact OneP.some_mk h1 h2 rfl rfl HR3.out HK3.out
    · exact OneP.none_mk h1 _ rfl HR3.out HK3.out
end Go.Proofs.YthejefldnpeciaaGreatDoor
