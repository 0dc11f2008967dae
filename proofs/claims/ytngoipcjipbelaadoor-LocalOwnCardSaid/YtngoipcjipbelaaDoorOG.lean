/- operand: digits, plain, number, added. -/
import Derived.Test.YtngoipcjipbelaaDoorOF
namespace Go.Proofs.YtngoipcjipbelaaDoor
set_option linter.unusedVariables false
set_option linter.unusedSimpArgs false
open Go.ChangeShapes Go.WideShapes Go.Deep Go.RowKit

theorem RR.greatStep {w : World} {p : Nat} {t : Ti} {r : List Ti} {g : Bool} (h : RR w p (t :: r) g) :
    ∃ k m : Nat, w.cell? ⟨p, 1, none⟩ = some (.int .i64 (k : Int)) ∧ w.frozen? ⟨p, 1, none⟩ = false ∧ w.frozen? ⟨p, 2, none⟩ = false ∧ w.cell? ⟨p, 2, none⟩ = some (.bool g) ∧ IntKind.i64.wrap ((k : Int) + 1) = (m : Int) ∧
      RR ((w.setCell ⟨p, 2, none⟩ (.bool true)).setCell ⟨p, 1, none⟩ (.int .i64 (m : Int))) p r true := by
  obtain ⟨ts, k, h1, h2, h3, h4, h, hT⟩ := h
  obtain ⟨a, c, -, c1, c2, f1, f2⟩ := h.cells
  have hl := congrArg List.length h4
  simp only [List.length_drop, List.length_cons] at hl
  refine ⟨k, k + 1, c1, f1, f2, c2, by rw [IntKind.wrap_i64]; omega, ts, k + 1, h1, h2, by omega, ?_, (h.great true).step (k + 1), (hT.kp (KP.step _ _ _ _)).kp (KP.step _ _ _ _)⟩
  rw [← List.drop_drop, h4]; rfl
theorem TC.set {w : World} {X p o : Nat} {t : Ti} (h : TC w X t) (hne : X ≠ p) (v : Value) : TC (w.setCell ⟨p, o, none⟩ v) X t := h.kept (KP.step _ _ _ _) hne
set_option maxRecDepth 100000 in
set_option maxHeartbeats 2000000 in
theorem digits_ok {w : World} {p : Nat} {t : Ti} {r : List Ti} {g g' : Bool} {v : Int} (h : RR w p (t :: r) g) (hd : digQ t = some (v, g')) :
    Calls Tryd.prog 94 #[.pointer (some ⟨p, 0, none⟩)] w (Did (.int .u64 v) p r (g || g') w) := by
  have HN : Hid (Calls Tryd.prog 74 #[.pointer (some ⟨p, 0, none⟩)] w (Did (tiV t) p (t :: r) g w)) := Lib.hid (next_r h)
  have HV := Lib.hid (fun u => Value_any ⟨t.text.toArray⟩ u)
  clear h
  unfold digQ at hd
  split at hd
  · rename_i hk
    have hk2 : (t.kind != 2) = false := by rw [hk]; rfl
    clear hk
    obtain ⟨va, ve, hv⟩ : ∃ va ve, valS t.text = (va, ve) := ⟨_, _, rfl⟩
    rw [hv] at hd
    have HV : Hid (∀ u, Calls Tryd.prog 46 #[.string ⟨t.text.toArray⟩] u (RetB (two .u64 .i64 (va, ve)) u)) := Lib.hid fun u => by
      have := HV.out u
      rw [show (⟨t.text.toArray⟩ : ByteArray).data.toList = t.text by simp, hv] at this
      exact this
    split at hd
    · rename_i c0
      replace c0 : ve = 0 := c0
      cases hd
      subst c0
      go_enter Tryd.func94, Tryd.ntmps94
      go_wp2_with fail
      refine HN.out.mono ?_
      rintro e u ⟨rfl, hR, hK⟩
      have HL := Lib.hid (lay_t hR hK t)
      clear hR hK
      obtain ⟨x0, x1, x2⟩ := HL.out.2.2.1.cells
      go_wp2_with fail
      refine (HV.out _).mono ?_
      rintro e u2 ⟨rfl, hB⟩
      have HR2 := Lib.hid (HL.out.1.next hB)
      have HK2 := Lib.hid (KP.trans' HL.out.2.1 (KP.of_below (p := p) hB))
      clear hB
      obtain ⟨k, m, k1, k2, k3, HS⟩ := HR2.out.step
      have HS := Lib.hid HS
      go_wp2
      go_ret
      exact ⟨rfl, by rw [Bool.or_false]; exact HS.out, KP.trans' HK2.out (KP.step _ _ _ _)⟩
    · rename_i c0
      split at hd
      · rename_i c4
        replace c4 : ve = 4 := c4
        have hva : va = 0 := by
          have := (valS_range t.text).2.2
          rw [hv] at this
          rcases this with h | ⟨h, -⟩
          · exact absurd h c0
          · exact h
        cases hd
        subst c4 hva
        go_enter Tryd.func94, Tryd.ntmps94
        go_wp2_with fail
        refine HN.out.mono ?_
        rintro e u ⟨rfl, hR, hK⟩
        have HL := Lib.hid (lay_t hR hK t)
        clear hR hK
        obtain ⟨x0, x1, x2⟩ := HL.out.2.2.1.cells
        go_wp2_with fail
        refine (HV.out _).mono ?_
        rintro e u2 ⟨rfl, hB⟩
        have HR2 := Lib.hid (HL.out.1.next hB)
        have HK2 := Lib.hid (KP.trans' HL.out.2.1 (KP.of_below (p := p) hB))
        clear hB
        obtain ⟨k, m, k1, k2, k3, k4, k5, HS⟩ := HR2.out.greatStep
        have HS := Lib.hid HS
        go_wp2
        go_ret
        exact ⟨rfl, by rw [Bool.or_true]; exact HS.out, KP.trans' (KP.trans' HK2.out (KP.step _ _ _ _)) (KP.step _ _ _ _)⟩
      · cases hd
  · cases hd
theorem digits_no {w : World} {p : Nat} {l : List Ti} {g : Bool} (h : RR w p l g) (hd : digitsP l = none) :
    Calls Tryd.prog 94 #[.pointer (some ⟨p, 0, none⟩)] w (Thr p w) := by
  have HN := Lib.hid (next_r h)
  have hd' : digQ (nextT l) = none := by
    cases l with
    | nil => rfl
    | cons t r =>
      unfold digitsP oneP at hd
      show digQ t = none
      cases hq : digQ t with
      | none => rfl
      | some x => obtain ⟨x1, x2⟩ := x; simp [hq] at hd
  obtain ⟨t, ht⟩ : ∃ t, nextT l = t := ⟨_, rfl⟩
  rw [ht] at HN hd'
  clear ht hd
  have HV := Lib.hid (fun u => Value_any ⟨t.text.toArray⟩ u)
  clear h
  unfold digQ at hd'
  by_cases hk : t.kind = 2
  · rw [if_pos hk] at hd'
    have hk2 : (t.kind != 2) = false := by rw [hk]; rfl
    clear hk
    obtain ⟨va, ve, hv⟩ : ∃ va ve, valS t.text = (va, ve) := ⟨_, _, rfl⟩
    rw [hv] at hd'
    have HV : Hid (∀ u, Calls Tryd.prog 46 #[.string ⟨t.text.toArray⟩] u (RetB (two .u64 .i64 (va, ve)) u)) := Lib.hid fun u => by
      have := HV.out u
      rw [show (⟨t.text.toArray⟩ : ByteArray).data.toList = t.text by simp, hv] at this
      exact this
    by_cases c0 : ve = 0
    · rw [if_pos c0] at hd'; cases hd'
    · rw [if_neg c0] at hd'
      by_cases c4 : ve = 4
      · rw [if_pos c4] at hd'; cases hd'
      · clear hd'
        have hb0 : (ve == 0) = false := by rw [beq_eq_false_iff_ne]; exact c0
        have hb4 : (ve == 4) = false := by rw [beq_eq_false_iff_ne]; exact c4
        clear c0 c4
        go_enter Tryd.func94, Tryd.ntmps94
        go_wp2_with fail
        refine HN.out.mono ?_
        rintro e u ⟨rfl, hR, hK⟩
        have HL := Lib.hid (lay_t hR hK t)
        clear hR hK
        obtain ⟨x0, x1, x2⟩ := HL.out.2.2.1.cells
        go_wp2_with fail
        refine (HV.out _).mono ?_
        rintro e u2 ⟨rfl, hB⟩
        have HK2 := Lib.hid (KP.trans' HL.out.2.1 (KP.of_below (p := p) hB))
        clear hB
        go_wp2
        exact ⟨rfl, rfl, HK2.out⟩
  · clear hd'
    have hk2 : (t.kind != 2) = true := by rw [bne_iff_ne]; exact hk
    clear hk
    go_enter Tryd.func94, Tryd.ntmps94
    go_wp2_with fail
    refine HN.out.mono ?_
    rintro e u ⟨rfl, hR, hK⟩
    have HL := Lib.hid (lay_t hR hK t)
    clear hR hK
    obtain ⟨x0, x1, x2⟩ := HL.out.2.2.1.cells
    go_wp2
    exact ⟨rfl, rfl, HL.out.2.1⟩
theorem next_cons {l : List Ti} {t : Ti} (h : nextT l = t) (hk : t.kind ≠ 0) : ∃ r, l = t :: r := by
  cases l with
  | nil => rw [show nextT [] = tiZ from rfl] at h; rw [← h] at hk; exact absurd rfl hk
  | cons a r => exact ⟨r, by rw [show nextT (a :: r) = a from rfl] at h; rw [h]⟩
theorem digits_some {l r : List Ti} {v : Int} {g : Bool} (h : digitsP l = some (v, r, g)) : ∃ t, l = t :: r ∧ digQ t = some (v, g) := by
  unfold digitsP oneP at h
  split at h
  · cases h
  · rename_i t r'
    split at h
    · cases h
    · rename_i e
      simp only [Option.some.injEq, Prod.mk.injEq] at h
      obtain ⟨rfl, rfl, rfl⟩ := h
      exact ⟨t, rfl, e⟩
set_option maxRecDepth 100000 in
set_option maxHeartbeats 2000000 in
theorem plain_ok {w : World} {p : Nat} {l r : List Ti} {g g' : Bool} {v : Int} (h : RR w p l g) (hd : plainP l = some (v, r, g')) :
    Calls Tryd.prog 77 #[.pointer (some ⟨p, 0, none⟩)] w (Did (.int .u64 v) p r (g || g') w) := by
  have HN := Lib.hid (next_r h)
  unfold plainP ifP at hd
  by_cases hk : ((nextT l).kind == 5) = true
  · rw [if_pos hk] at hd
    obtain ⟨t, rfl, ht⟩ : ∃ t, l = t :: r ∧ some (t.v, false) = some (v, g') := by
      unfold oneP at hd
      split at hd
      · cases hd
      · rename_i t r'
        simp only [Option.some.injEq, Prod.mk.injEq] at hd
        obtain ⟨rfl, rfl, rfl⟩ := hd
        exact ⟨t, rfl, rfl⟩
    cases ht
    replace hk : (t.kind == 5) = true := hk
    rw [show nextT (t :: r) = t from rfl] at HN
    clear h hd
    go_enter Tryd.func77, Tryd.ntmps77
    go_wp2_with fail
    refine HN.out.mono ?_
    rintro e u ⟨rfl, hR, hK⟩
    have HL := Lib.hid (lay_t hR hK t)
    clear hR hK
    obtain ⟨x0, x1, x2⟩ := HL.out.2.2.1.cells
    obtain ⟨k, m, k1, k2, k3, HS⟩ := HL.out.1.step
    obtain ⟨y0, y1, y2⟩ := (HL.out.2.2.1.set (o := 1) HL.out.2.2.2 (.int .i64 (m : Int))).cells
    have HS := Lib.hid HS
    go_wp2
    go_ret
    exact ⟨rfl, by rw [Bool.or_false]; exact HS.out, KP.trans' HL.out.2.1 (KP.step _ _ _ _)⟩
  · rw [if_neg hk] at hd
    obtain ⟨t, rfl, ht⟩ := digits_some hd
    replace hk : (t.kind == 5) = false := by simpa [nextT] using hk
    rw [show nextT (t :: r) = t from rfl] at HN
    clear h hd
    go_enter Tryd.func77, Tryd.ntmps77
    go_wp2_with fail
    refine HN.out.mono ?_
    rintro e u ⟨rfl, hR, hK⟩
    have HL := Lib.hid (lay_t hR hK t)
    clear hR hK
    obtain ⟨x0, x1, x2⟩ := HL.out.2.2.1.cells
    have HT := Lib.hid ht
    clear ht
    go_wp2_with fail
    refine (digits_ok HL.out.1 HT.out).mono ?_
    rintro e u2 ⟨rfl, hR2, hK2⟩
    have HR2 := Lib.hid hR2
    have HK2 := Lib.hid (KP.trans' HL.out.2.1 hK2)
    clear hR2 hK2
    go_wp2
    go_ret
    exact ⟨rfl, HR2.out, HK2.out⟩
theorem plain_no {w : World} {p : Nat} {l : List Ti} {g : Bool} (h : RR w p l g) (hd : plainP l = none) :
    Calls Tryd.prog 77 #[.pointer (some ⟨p, 0, none⟩)] w (Thr p w) := by
  have HN := Lib.hid (next_r h)
  unfold plainP ifP at hd
  by_cases hk : ((nextT l).kind == 5) = true
  · rw [if_pos hk] at hd
    obtain ⟨t, ht⟩ : ∃ t, nextT l = t := ⟨_, rfl⟩
    obtain ⟨r, rfl⟩ := next_cons ht (by rw [← ht]; rw [beq_iff_eq] at hk; rw [hk]; decide)
    cases hd
  · rw [if_neg hk] at hd
    replace hk : ((nextT l).kind == 5) = false := by simpa using hk
    have HD := Lib.hid hd
    obtain ⟨t, ht⟩ : ∃ t, nextT l = t := ⟨_, rfl⟩
    rw [ht] at HN hk
    clear h hd ht
    go_enter Tryd.func77, Tryd.ntmps77
    go_wp2_with fail
    refine HN.out.mono ?_
    rintro e u ⟨rfl, hR, hK⟩
    have HL := Lib.hid (lay_t hR hK t)
    clear hR hK
    obtain ⟨x0, x1, x2⟩ := HL.out.2.2.1.cells
    go_wp2_with fail
    refine (digits_no HL.out.1 HD.out).mono ?_
    rintro e u2 ⟨rfl, hK2⟩
    exact ⟨rfl, rfl, KP.trans' HL.out.2.1 hK2⟩
end Go.Proofs.YtngoipcjipbelaaDoor
