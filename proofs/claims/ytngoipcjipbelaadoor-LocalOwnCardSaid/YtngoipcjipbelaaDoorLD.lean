/- lex: more, isSign, one, name. -/
import Derived.Test.YtngoipcjipbelaaDoorLC
import Derived.Test.YtngoipcjipbelaaDoorShelf
import Derived.Deep.LoopGhost
import Derived.Shelf.RegionOpen
namespace Go.Proofs.YtngoipcjipbelaaDoor
set_option linter.unusedVariables false
set_option linter.unusedSimpArgs false
open Go.ChangeShapes Go.WideShapes Go.Deep Go.RowKit

theorem RD.cells {w : World} {p at' : Nat} {rs : List Nat} (h : RD w p rs at') : ∃ a c, w.cell? ⟨p, 0, none⟩ = some (.slice a rs.length c) ∧ w.cell? ⟨p, 1, none⟩ = some (.int .i64 (at' : Int)) ∧ w.frozen? ⟨p, 1, none⟩ = false := by
  obtain ⟨a, c, hp, -⟩ := h
  exact ⟨a, c, by rw [World.cell?, hp]; rfl, by rw [World.cell?, hp]; rfl, by rw [World.frozen?, hp]; rfl⟩
theorem RD.drewN {w : World} {p at' : Nat} {rs : List Nat} (h : RD w p rs at') (n : Nat) : RD (w.drewN n) p rs at' := by
  obtain ⟨a, c, h1, h2⟩ := h
  exact ⟨a, c, h1, h2.below (below_drewN (Below.refl _ _) n)⟩
theorem KP.drewN {w w' : World} {p : Nat} (h : KP p w w') (n : Nat) : KP p w (w'.drewN n) := ⟨h.os, h.tape, h.output, h.size, h.block⟩
/-- What a call that reads hands back. -/
def PeekP (p : Nat) (rs : List Nat) (at' : Nat) (v : Int) (w : World) (e : Ending) (w' : World) : Prop := e = .returned (.int .i64 v) ∧ RD w' p rs at' ∧ KP p w w'
theorem peek0 {w : World} {p at' : Nat} {rs : List Nat} (h : RD w p rs at') (h1 : at' ≤ 1000) (h2 : rs.length ≤ 1000) :
    Calls Tryd.prog 61 #[.pointer (some ⟨p, 0, none⟩), .int .i64 0] w (PeekP p rs at' (peekZ (rs.drop at')) w) := by
  refine (peek_any h 0 (by omega) (by omega)).mono ?_
  rintro e w' ⟨rfl, n, rfl⟩
  exact ⟨rfl, h.drewN n, (KP.refl _ _).drewN n⟩
theorem peek1 {w : World} {p at' : Nat} {rs : List Nat} (h : RD w p rs at') (h1 : at' ≤ 1000) (h2 : rs.length ≤ 1000) :
    Calls Tryd.prog 61 #[.pointer (some ⟨p, 0, none⟩), .int .i64 1] w (PeekP p rs at' (peekZ (rs.drop (at' + 1))) w) := by
  refine (peek_any h 1 (by omega) (by omega)).mono ?_
  rintro e w' ⟨rfl, n, rfl⟩
  exact ⟨rfl, h.drewN n, (KP.refl _ _).drewN n⟩
/-- At a place, behind passing over some. -/
def AtI (p : Nat) (rs : List Nat) (at0 a1 : Nat) (w wl : World) : Prop := at0 ≤ a1 ∧ a1 ≤ rs.length ∧ (rs.drop at0).dropWhile whiR = (rs.drop a1).dropWhile whiR ∧ RD wl p rs a1 ∧ KP p w wl
def MoreP (p : Nat) (rs : List Nat) (at0 : Nat) (w : World) (e : Ending) (w' : World) : Prop :=
  ∃ a1, at0 ≤ a1 ∧ a1 ≤ rs.length ∧ rs.drop a1 = (rs.drop at0).dropWhile whiR ∧ e = .returned (.bool (!stops (rs.drop a1))) ∧ RD w' p rs a1 ∧ KP p w w'
theorem whi_peek {rs : List Nat} {a : Nat} (h : whiI (peekZ (rs.drop a)) = true) : a < rs.length ∧ (rs.drop a).dropWhile whiR = (rs.drop (a + 1)).dropWhile whiR := by
  by_cases hl : a < rs.length
  · refine ⟨hl, ?_⟩
    rw [peekZ_at hl] at h
    rw [drop_cons hl, List.dropWhile_cons_of_pos (p := whiR) h]
  · rw [peekZ_end (by omega)] at h
    exact absurd h (by decide)
theorem whi_stop {rs : List Nat} {a : Nat} (h : whiI (peekZ (rs.drop a)) = false) : (rs.drop a).dropWhile whiR = rs.drop a := by
  by_cases hl : a < rs.length
  · rw [peekZ_at hl] at h
    rw [drop_cons hl, List.dropWhile_cons_of_neg (by unfold whiR; rw [h]; decide)]
  · rw [List.drop_eq_nil_of_le (by omega)]; rfl
theorem wrap_at (x : Nat) (h : x ≤ 1001) : IntKind.i64.wrap ((x : Int) + 1) = ((x + 1 : Nat) : Int) := by rw [IntKind.wrap_i64]; omega
theorem stops_yes {rs : List Nat} {a : Nat} (h0 : (peekZ (rs.drop a) == 47) = true) (h1 : (peekZ (rs.drop (a + 1)) == 47) = true) : stops (rs.drop a) = true := by
  rw [beq_iff_eq] at h0 h1
  have l0 : a < rs.length := by
    apply Classical.byContradiction; intro hn
    rw [peekZ_end (by omega)] at h0; cases h0
  have l1 : a + 1 < rs.length := by
    apply Classical.byContradiction; intro hn
    rw [peekZ_end (by omega)] at h1; cases h1
  rw [peekZ_at l0] at h0
  rw [peekZ_at l1] at h1
  have e0 : rs[a] = 47 := by omega
  have e1 : rs[a + 1] = 47 := by omega
  unfold stops
  rw [drop_cons l0, drop_cons l1, e0, e1]
  rfl
theorem stops_no0 {rs : List Nat} {a : Nat} (h0 : (peekZ (rs.drop a) == 47) = false) : stops (rs.drop a) = !decide (a < rs.length) := by
  by_cases l0 : a < rs.length
  · rw [peekZ_at l0, beq_eq_false_iff_ne] at h0
    have e0 : rs[a] ≠ 47 := by omega
    rw [drop_cons l0, decide_eq_true l0]
    generalize rs[a] = x at e0
    unfold stops
    simp [e0]
  · rw [List.drop_eq_nil_of_le (by omega), decide_eq_false l0]; rfl
theorem stops_no1 {rs : List Nat} {a : Nat} (h1 : (peekZ (rs.drop (a + 1)) == 47) = false) : stops (rs.drop a) = !decide (a < rs.length) := by
  by_cases l0 : a < rs.length
  · rw [decide_eq_true l0]
    by_cases l1 : a + 1 < rs.length
    · rw [peekZ_at l1, beq_eq_false_iff_ne] at h1
      have e1 : rs[a + 1] ≠ 47 := by omega
      rw [drop_cons l0, drop_cons l1]
      generalize rs[a] = x
      generalize rs[a + 1] = y at e1
      unfold stops
      simp [e1]
    · have e : rs.drop (a + 1) = [] := List.drop_eq_nil_of_le (by omega)
      rw [drop_cons l0, e]
      unfold stops
      simp
  · rw [List.drop_eq_nil_of_le (by omega), decide_eq_false l0]; rfl
set_option maxRecDepth 100000 in
set_option maxHeartbeats 2000000 in
theorem more_any {w : World} {p at0 : Nat} {rs : List Nat} (h : RD w p rs at0) (h1 : at0 ≤ rs.length) (h2 : rs.length ≤ 300) :
    Calls Tryd.prog 40 #[.pointer (some ⟨p, 0, none⟩)] w (MoreP p rs at0 w) := by
  have HI := Lib.hid (show AtI p rs at0 at0 w w from ⟨Nat.le_refl _, h1, rfl, h, KP.refl _ _⟩)
  have HL := Lib.hid h2
  clear h h1 h2
  go_enter Tryd.func40, Tryd.ntmps40
  go_wp2
  go_loopg [] (rs.length - at0) (fun k wl => ∃ a1, Hid (AtI p rs at0 a1 w wl) ∧ Hid (k = rs.length - a1))
  case atStart => exact ⟨at0, HI, Lib.hid rfl⟩
  case round =>
    obtain ⟨a1, HA, HK⟩ := hrel
    clear HI
    obtain ⟨q1, q2, q3, hR, hK⟩ := HA.out
    have HP : Hid (∀ u, RD u p rs a1 → Calls Tryd.prog 61 #[.pointer (some ⟨p, 0, none⟩), .int .i64 0] u (PeekP p rs a1 (peekZ (rs.drop a1)) u)) := Lib.hid fun u hu => peek0 hu (by have := HL.out; omega) (by have := HL.out; omega)
    have HP1 : Hid (∀ u, RD u p rs a1 → Calls Tryd.prog 61 #[.pointer (some ⟨p, 0, none⟩), .int .i64 1] u (PeekP p rs a1 (peekZ (rs.drop (a1 + 1))) u)) := Lib.hid fun u hu => peek1 hu (by have := HL.out; omega) (by have := HL.out; omega)
    have HR := Lib.hid hR
    have HQ := Lib.hid (And.intro q1 (And.intro q2 (And.intro q3 hK)))
    have HW := Lib.hid (wrap_at a1 (by have := HL.out; omega))
    clear q1 q2 q3 hR hK HA
    obtain ⟨v, hv⟩ : ∃ v, v = peekZ (rs.drop a1) := ⟨_, rfl⟩
    obtain ⟨v1, hv1⟩ : ∃ v, v = peekZ (rs.drop (a1 + 1)) := ⟨_, rfl⟩
    rw [← hv] at HP
    rw [← hv1] at HP1
    have HV := Lib.hid hv
    have HV1 := Lib.hid hv1
    clear hv hv1
    cases c : whiI v
    · have HS : Hid (rs.drop a1 = (rs.drop at0).dropWhile whiR) := Lib.hid (by rw [HQ.out.2.2.1]; exact (whi_stop (by rw [← HV.out]; exact c)).symm)
      go_wp2_with fail
      refine (HP.out _ HR.out).mono ?_
      rintro e u1 ⟨rfl, hR, hK⟩
      have HR1 := Lib.hid hR
      have HK1 := Lib.hid (HQ.out.2.2.2.trans hK)
      clear hR hK
      go_wp2_with fail
      refine (isWhite_any _ _).mono ?_
      rintro e w' ⟨rfl, rfl⟩
      cases d : (v == 47)
      · have HD : Hid (stops (rs.drop a1) = !decide (a1 < rs.length)) := Lib.hid (stops_no0 (by rw [← HV.out]; exact d))
        go_wp2_with fail
        refine (HP.out _ HR1.out).mono ?_
        rintro e u2 ⟨rfl, hR, hK⟩
        have HR2 := Lib.hid hR
        have HK2 := Lib.hid (HK1.out.trans hK)
        obtain ⟨a, cc, c0, c1, -⟩ := hR.cells
        clear hR hK
        obtain ⟨nn, hnn⟩ : ∃ nn, nn = rs.length := ⟨_, rfl⟩
        have HN := Lib.hid hnn
        rw [← hnn] at c0
        clear hnn
        go_wp2
        go_quiet (fail)
        go_wp2
        go_ret
        exact ⟨a1, HQ.out.1, HQ.out.2.1, HS.out, by rw [HD.out, Bool.not_not, ← HN.out]; simp, HR2.out.drewN _, KP.drewN HK2.out _⟩
      · cases f : (v1 == 47)
        · have HD : Hid (stops (rs.drop a1) = !decide (a1 < rs.length)) := Lib.hid (stops_no1 (by rw [← HV1.out]; exact f))
          go_wp2_with fail
          refine (HP.out _ HR1.out).mono ?_
          rintro e u2 ⟨rfl, hR, hK⟩
          have HR2 := Lib.hid hR
          have HK2 := Lib.hid (HK1.out.trans hK)
          clear hR hK
          go_wp2_with fail
          refine (HP1.out _ HR2.out).mono ?_
          rintro e u3 ⟨rfl, hR, hK⟩
          have HR3 := Lib.hid hR
          have HK3 := Lib.hid (HK2.out.trans hK)
          obtain ⟨a, cc, c0, c1, -⟩ := hR.cells
          clear hR hK
          obtain ⟨nn, hnn⟩ : ∃ nn, nn = rs.length := ⟨_, rfl⟩
          have HN := Lib.hid hnn
          rw [← hnn] at c0
          clear hnn
          go_wp2
          go_quiet (fail)
          go_wp2
          go_ret
          exact ⟨a1, HQ.out.1, HQ.out.2.1, HS.out, by rw [HD.out, Bool.not_not, ← HN.out]; simp, HR3.out.drewN _, KP.drewN HK3.out _⟩
        · have HD : Hid (stops (rs.drop a1) = true) := Lib.hid (stops_yes (by rw [← HV.out]; exact d) (by rw [← HV1.out]; exact f))
          go_wp2_with fail
          refine (HP.out _ HR1.out).mono ?_
          rintro e u2 ⟨rfl, hR, hK⟩
          have HR2 := Lib.hid hR
          have HK2 := Lib.hid (HK1.out.trans hK)
          clear hR hK
          go_wp2_with fail
          refine (HP1.out _ HR2.out).mono ?_
          rintro e u3 ⟨rfl, hR, hK⟩
          have HR3 := Lib.hid hR
          have HK3 := Lib.hid (HK2.out.trans hK)
          clear hR hK
          go_wp2
          go_ret
          exact ⟨a1, HQ.out.1, HQ.out.2.1, HS.out, by rw [HD.out]; rfl, HR3.out, HK3.out⟩
    · have HS : Hid (a1 < rs.length ∧ (rs.drop a1).dropWhile whiR = (rs.drop (a1 + 1)).dropWhile whiR) := Lib.hid (whi_peek (by rw [← HV.out]; exact c))
      go_wp2_with fail
      refine (HP.out _ HR.out).mono ?_
      rintro e u1 ⟨rfl, hR, hK⟩
      have HR1 := Lib.hid hR
      have HK1 := Lib.hid (HQ.out.2.2.2.trans hK)
      obtain ⟨a, cc, c0, c1, f1⟩ := hR.cells
      clear hR hK
      go_wp2_with fail
      refine (isWhite_any _ _).mono ?_
      rintro e w' ⟨rfl, rfl⟩
      have hw := HW.out
      go_wp2
      go_roundg (rs.length - (a1 + 1))
      case measure => have := HS.out.1; have := HK.out; omega
      case rel =>
        refine ⟨a1 + 1, Lib.hid ⟨by have := HQ.out.1; omega, HS.out.1, HQ.out.2.2.1.trans HS.out.2, ?_, ?_⟩, Lib.hid rfl⟩
        · exact HR1.out.step _
        · exact HK1.out.trans (KP.step _ _ _ _)
end Go.Proofs.YtngoipcjipbelaaDoor
