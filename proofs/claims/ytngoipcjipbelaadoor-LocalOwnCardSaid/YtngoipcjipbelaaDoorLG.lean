/- lex: name, text, character. -/
import Derived.Test.YtngoipcjipbelaaDoorLF
namespace Go.Proofs.YtngoipcjipbelaaDoor
set_option linter.unusedVariables false
set_option linter.unusedSimpArgs false
open Go.ChangeShapes Go.WideShapes Go.Deep Go.RowKit

def bytesOf (rs : List Nat) : ByteArray := ⟨(rs.flatMap encL).toArray⟩
theorem word_peek {rs : List Nat} {a : Nat} (h : (letterI (peekZ (rs.drop a)) || digI (peekZ (rs.drop a))) = true) :
    ∃ r : Nat, peekZ (rs.drop a) = r ∧ r < 128 ∧ a < rs.length ∧ (rs.drop a).takeWhile wordR = r :: (rs.drop (a + 1)).takeWhile wordR ∧ (rs.drop a).dropWhile wordR = (rs.drop (a + 1)).dropWhile wordR := by
  by_cases hl : a < rs.length
  · rw [peekZ_at hl] at h ⊢
    have hw : wordR rs[a] = true := h
    refine ⟨rs[a], rfl, wordR_lt hw, hl, ?_, ?_⟩
    · rw [drop_cons hl, List.takeWhile_cons_of_pos hw]
    · rw [drop_cons hl, List.dropWhile_cons_of_pos hw]
  · rw [peekZ_end (by omega)] at h
    exact absurd h (by decide)
theorem word_stop {rs : List Nat} {a : Nat} (h : (letterI (peekZ (rs.drop a)) || digI (peekZ (rs.drop a))) = false) :
    (rs.drop a).takeWhile wordR = [] ∧ (rs.drop a).dropWhile wordR = rs.drop a := by
  by_cases hl : a < rs.length
  · rw [peekZ_at hl] at h
    have hw : ¬ wordR rs[a] = true := by rw [show wordR rs[a] = false from h]; decide
    rw [drop_cons hl, List.takeWhile_cons_of_neg hw, List.dropWhile_cons_of_neg hw]
    exact ⟨rfl, rfl⟩
  · rw [List.drop_eq_nil_of_le (by omega)]; exact ⟨rfl, rfl⟩
def NameI (p B : Nat) (rs : List Nat) (at0 a1 : Nat) (pre : List Nat) (w wl : World) : Prop :=
  a1 ≤ rs.length ∧ pre.length ≤ a1 ∧ (rs.drop at0).takeWhile wordR = pre ++ (rs.drop a1).takeWhile wordR ∧ (rs.drop at0).dropWhile wordR = (rs.drop a1).dropWhile wordR ∧ (∀ r ∈ pre, r < 128) ∧
    RD wl p rs a1 ∧ KP p w wl ∧ Wr B B (Lib.byteCells (pre.flatMap encL)) wl
def NameP (p : Nat) (rs : List Nat) (at0 : Nat) (w : World) (e : Ending) (w' : World) : Prop :=
  e = .returned (.string (bytesOf ((rs.drop at0).takeWhile wordR))) ∧ ∃ a1, a1 ≤ rs.length ∧ rs.drop a1 = (rs.drop at0).dropWhile wordR ∧ RD w' p rs a1 ∧ KP p w w'
theorem ascii_len {pre : List Nat} (h : ∀ r ∈ pre, r < 128) : (pre.flatMap encL).length = pre.length := by
  induction pre with
  | nil => rfl
  | cons r t ih =>
    rw [List.flatMap_cons, List.length_append, encL_ascii (h r (by simp)), ih fun x hx => h x (by simp [hx])]
    simp; omega
set_option maxRecDepth 100000 in
set_option maxHeartbeats 2000000 in
theorem name_any {w : World} {p at0 : Nat} {rs : List Nat} (h : RD w p rs at0) (h1 : at0 ≤ rs.length) (h2 : rs.length ≤ 300) :
    Calls Tryd.prog 62 #[.pointer (some ⟨p, 0, none⟩)] w (NameP p rs at0 w) := by
  obtain ⟨B, hB⟩ : ∃ B, B = w.heap.size := ⟨_, rfl⟩
  have hpB : p < B := by rw [hB]; exact h.lt
  have hb0 : Below w.heap.size w (w.alloc (.cells #[.pointer none, .slice none 0 0] 64)) := (Below.refl _ _).alloc (Nat.le_refl _) _
  have HI := Lib.hid (show NameI p B rs at0 at0 [] w (w.alloc (.cells #[.pointer none, .slice none 0 0] 64)) from
    ⟨h1, by simp, rfl, rfl, by simp, h.below hb0 h.lt, KP.of_below hb0, by rw [hB]; exact Lib.fresh_isBuilder 64 5 w⟩)
  have HL := Lib.hid h2
  have HB := Lib.hid hB
  have HPB := Lib.hid hpB
  clear h h1 h2 hb0 hpB
  go_enter Tryd.func62, Tryd.ntmps62
  go_wp2_with fail
  rw [← hB]
  clear hB
  go_loopg [] (rs.length - at0) (fun k wl => ∃ a1 pre, Hid (NameI p B rs at0 a1 pre w wl) ∧ Hid (k = rs.length - a1))
  case atStart => exact ⟨at0, [], HI, Lib.hid rfl⟩
  case round =>
    obtain ⟨a1, pre, HA, HK⟩ := hrel
    clear HI
    obtain ⟨v, hv⟩ : ∃ v, v = peekZ (rs.drop a1) := ⟨_, rfl⟩
    have HP : Hid (∀ u, RD u p rs a1 → Calls Tryd.prog 61 #[.pointer (some ⟨p, 0, none⟩), .int .i64 0] u (PeekP p rs a1 v u)) := Lib.hid fun u hu => by
      rw [hv]; exact peek0 hu (by have := HL.out; have := HA.out.1; omega) (by have := HL.out; omega)
    have HV := Lib.hid hv
    clear hv
    cases c : (letterI v || digI v)
    · -- no more
      have c1 : letterI v = false := (Bool.or_eq_false_iff.1 c).1
      have c2 : digI v = false := (Bool.or_eq_false_iff.1 c).2
      have HS := Lib.hid (word_stop (rs := rs) (a := a1) (by rw [← HV.out]; exact c))
      clear c
      go_wp2_with fail
      refine (HP.out _ HA.out.2.2.2.2.2.1).mono ?_
      rintro e u1 ⟨rfl, hR, hK⟩
      have HR1 := Lib.hid hR
      have HK1 := Lib.hid (KP.trans' HA.out.2.2.2.2.2.2.1 hK)
      have HW1 := Lib.hid (wr_kp HA.out.2.2.2.2.2.2.2 hK HPB.out)
      clear hR hK
      go_wp2_with fail
      refine (isLetter_any _ _).mono ?_
      rintro e w' ⟨rfl, rfl⟩
      go_wp2_with fail
      refine (HP.out _ HR1.out).mono ?_
      rintro e u2 ⟨rfl, hR, hK⟩
      have HR2 := Lib.hid hR
      have HK2 := Lib.hid (KP.trans' HK1.out hK)
      have HW2 := Lib.hid (wr_kp HW1.out hK HPB.out)
      clear hR hK
      go_wp2_with fail
      refine (isDigit_any _ _).mono ?_
      rintro e w' ⟨rfl, rfl⟩
      go_wp2_with fail
      refine (Tryd.Builder_String_any B B (pre.flatMap encL) u2 HW2.out (by rw [HB.out]; exact HK2.out.size)).mono ?_
      rintro e u3 ⟨rfl, hb⟩
      have HR3 := Lib.hid (HR2.out.below hb HPB.out)
      have HK3 := Lib.hid (KP.below HK2.out hb (by rw [HB.out]; exact Nat.le_refl _))
      clear hb
      go_wp2
      go_ret
      refine ⟨?_, a1, HA.out.1, ?_, HR3.out, HK3.out⟩
      · rw [HA.out.2.2.1, HS.out.1, List.append_nil]; rfl
      · rw [HA.out.2.2.2.1, HS.out.2]
    · -- one more
      have HS := Lib.hid (word_peek (rs := rs) (a := a1) (by rw [← HV.out]; exact c))
      obtain ⟨r, hr, hr128, -, -, -⟩ := HS.out
      rw [← HV.out] at hr
      subst hr
      have hw8 : IntKind.u8.wrap (r : Int) = r := by rw [IntKind.wrap_u8]; omega
      have HW : Hid (IntKind.i64.wrap ((a1 : Int) + 1) = ((a1 + 1 : Nat) : Int)) := Lib.hid (wrap_at a1 (by have := HL.out; have := HA.out.1; omega))
      obtain ⟨m, hm⟩ : ∃ m, m = a1 + 1 := ⟨_, rfl⟩
      rw [← hm] at HW
      have HM := Lib.hid hm
      have HR128 := Lib.hid hr128
      clear hm hr128
      go_wp2_with fail
      refine (HP.out _ HA.out.2.2.2.2.2.1).mono ?_
      rintro e u1 ⟨rfl, hR, hK⟩
      have HR1 := Lib.hid hR
      have HK1 := Lib.hid (KP.trans' HA.out.2.2.2.2.2.2.1 hK)
      have HW1 := Lib.hid (wr_kp HA.out.2.2.2.2.2.2.2 hK HPB.out)
      clear hR hK
      go_wp2_with fail
      refine (isLetter_any _ _).mono ?_
      rintro e w' ⟨rfl, rfl⟩
      have HST : Hid (∀ u, RD u p rs a1 → KP p w u → Wr B B (Lib.byteCells (pre.flatMap encL)) u → Calls Tryd.prog 35 #[.pointer (some ⟨B, 0, none⟩), .int .u8 (r : Int)] u fun e w' => e = .returned .nilIface ∧ RD w' p rs a1 ∧ KP p w w' ∧ Wr B B (Lib.byteCells ((pre ++ [r]).flatMap encL)) w') := Lib.hid fun u h1 h2 h3 => by
        refine (writeByte_any B B _ (r : Int) u h3 ?_ (by rw [HB.out]; exact h2.size)).mono ?_
        · rw [Lib.byteCells_length, ascii_len HA.out.2.2.2.2.1]
          have := HA.out.2.1; have := HA.out.1; have := HL.out; omega
        · rintro e w' ⟨he, h4, hb, -⟩
          refine ⟨he, h1.below hb HPB.out, KP.below h2 hb (by rw [HB.out]; exact Nat.le_refl _), .inr ?_⟩
          rw [List.flatMap_append, Lib.byteCells_append, show ([r] : List Nat).flatMap encL = encL r by simp, byteCells_enc_ascii HR128.out]
          exact h4
      have HEND : Hid (∀ u, RD u p rs a1 → KP p w u → Wr B B (Lib.byteCells ((pre ++ [r]).flatMap encL)) u → NameI p B rs at0 m (pre ++ [r]) w (u.setCell ⟨p, 1, none⟩ (.int .i64 (m : Int))) ∧ rs.length - m < gk) := Lib.hid fun u h1 h2 h3 => by
        obtain ⟨r', e1, e2, e3, e4, e5⟩ := HS.out
        have er : r' = r := by rw [← HV.out] at e1; omega
        subst er
        obtain ⟨q1, q2, q3, q4, q5, -⟩ := HA.out
        have hm := HM.out
        refine ⟨⟨by omega, by rw [List.length_append]; simp; omega, ?_, ?_, ?_, h1.step m, KP.trans' h2 (KP.step _ _ _ _), wr_kp h3 (KP.step _ _ _ _) HPB.out⟩, by have := HK.out; omega⟩
        · rw [q3, e4, hm]; simp
        · rw [q4, e5, hm]
        · intro x hx
          rcases List.mem_append.1 hx with hx | hx
          · exact q5 x hx
          · simp at hx; rw [hx]; exact e2
      cases d : letterI (r : Int)
      · have c2 : digI (r : Int) = true := by rw [d] at c; simpa using c
        clear c
        go_wp2_with fail
        refine (HP.out _ HR1.out).mono ?_
        rintro e u2 ⟨rfl, hR, hK⟩
        have HR2 := Lib.hid hR
        have HK2 := Lib.hid (KP.trans' HK1.out hK)
        have HW2 := Lib.hid (wr_kp HW1.out hK HPB.out)
        clear hR hK
        go_wp2_with fail
        refine (isDigit_any _ _).mono ?_
        rintro e w' ⟨rfl, rfl⟩
        go_wp2_with fail
        refine (HP.out _ HR2.out).mono ?_
        rintro e u3 ⟨rfl, hR, hK⟩
        have HR3 := Lib.hid hR
        have HK3 := Lib.hid (KP.trans' HK2.out hK)
        have HW3 := Lib.hid (wr_kp HW2.out hK HPB.out)
        clear hR hK
        go_wp2_with fail
        refine (HST.out _ HR3.out HK3.out HW3.out).mono ?_
        rintro e u4 ⟨rfl, hR, hK, hW⟩
        have HE := Lib.hid (HEND.out _ hR hK hW)
        obtain ⟨a, cc, c0, c1, f1⟩ := hR.cells
        clear hR hK hW
        have hw := HW.out
        go_wp2
        go_roundg (rs.length - m)
        case measure => exact HE.out.2
        case rel => exact ⟨m, pre ++ [r], Lib.hid HE.out.1, Lib.hid rfl⟩
      · clear c
        go_wp2_with fail
        refine (HP.out _ HR1.out).mono ?_
        rintro e u3 ⟨rfl, hR, hK⟩
        have HR3 := Lib.hid hR
        have HK3 := Lib.hid (KP.trans' HK1.out hK)
        have HW3 := Lib.hid (wr_kp HW1.out hK HPB.out)
        clear hR hK
        go_wp2_with fail
        refine (HST.out _ HR3.out HK3.out HW3.out).mono ?_
        rintro e u4 ⟨rfl, hR, hK, hW⟩
        have HE := Lib.hid (HEND.out _ hR hK hW)
        obtain ⟨a, cc, c0, c1, f1⟩ := hR.cells
        clear hR hK hW
        have hw := HW.out
        go_wp2
        go_roundg (rs.length - m)
        case measure => exact HE.out.2
        case rel => exact ⟨m, pre ++ [r], Lib.hid HE.out.1, Lib.hid rfl⟩
end Go.Proofs.YtngoipcjipbelaaDoor
