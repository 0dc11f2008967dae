/- lex: text, character. -/
import Derived.Test.YtngoipcjipbelaaDoorLG
namespace Go.Proofs.YtngoipcjipbelaaDoor
set_option linter.unusedVariables false
set_option linter.unusedSimpArgs false
open Go.ChangeShapes Go.WideShapes Go.Deep Go.RowKit

theorem one_vr {q v : Nat} {l t : List Nat} (h : oneL q l = some (v, t)) (hl : ∀ r ∈ l, VR r) : VR v := by
  rcases one_spec h with ⟨c, rfl, hm⟩ | ⟨rfl, -⟩
  · unfold meantL at hm
    repeat (split at hm; · cases hm; exact .inl (by omega))
    cases hm
  · exact hl v (by simp)
def addT (acc : List Nat) (o : Option (List Nat × List Nat)) : Option (List Nat × List Nat) := match o with | none => none | some (vs, u) => some (acc ++ vs, u)
theorem addT_nil (o : Option (List Nat × List Nat)) : addT [] o = o := by cases o with | none => rfl | some x => rfl
theorem addT_more (acc : List Nat) (v : Nat) (o : Option (List Nat × List Nat)) : addT acc (match o with | none => none | some (vs, u) => some (v :: vs, u)) = addT (acc ++ [v]) o := by
  cases o with | none => rfl | some x => simp [addT]
def TextI (p B : Nat) (rs : List Nat) (s a1 : Nat) (pre : List Nat) (w wl : World) : Prop :=
  a1 ≤ rs.length ∧ pre.length ≤ a1 ∧ textL (rs.drop s) = addT pre (textL (rs.drop a1)) ∧ (∀ r ∈ pre, VR r) ∧ RD wl p rs a1 ∧ KP p w wl ∧ Wr B B (Lib.byteCells (pre.flatMap encL)) wl
/-- What text hands back; it begins one place on. -/
def TextP (p : Nat) (rs : List Nat) (s : Nat) (w : World) (e : Ending) (w' : World) : Prop :=
  match textL (rs.drop s) with
  | some (vs, u) => ∃ a1, a1 ≤ rs.length ∧ rs.drop a1 = u ∧ e = .returned (.tuple #[.string (bytesOf vs), .bool true]) ∧ RD w' p rs a1 ∧ KP p w w'
  | none => e = .returned (.tuple #[.string ⟨#[]⟩, .bool false]) ∧ KP p w w'
theorem TextP.some_mk {p : Nat} {rs : List Nat} {s : Nat} {w : World} {e : Ending} {w' : World} {vs u : List Nat} (h : textL (rs.drop s) = some (vs, u)) {a1 : Nat} (h1 : a1 ≤ rs.length) (h2 : rs.drop a1 = u)
    (h3 : e = .returned (.tuple #[.string (bytesOf vs), .bool true])) (h4 : RD w' p rs a1) (h5 : KP p w w') : TextP p rs s w e w' := by
  unfold TextP; rw [h]; exact ⟨a1, h1, h2, h3, h4, h5⟩
theorem TextP.none_mk {p : Nat} {rs : List Nat} {s : Nat} {w : World} {e : Ending} {w' : World} (h : textL (rs.drop s) = none) (h3 : e = .returned (.tuple #[.string ⟨#[]⟩, .bool false])) (h5 : KP p w w') : TextP p rs s w e w' := by
  unfold TextP; rw [h]; exact ⟨h3, h5⟩
theorem peek_34 {rs : List Nat} {a : Nat} : (peekZ (rs.drop a) != 34) = false ↔ (rs.drop a).head? = some 34 := by
  by_cases hl : a < rs.length
  · rw [peekZ_at hl, drop_cons hl, bne_eq_false_iff_eq, List.head?_cons, Option.some.injEq]
    omega
  · rw [peekZ_end (by omega), List.drop_eq_nil_of_le (by omega)]
    simp
theorem vr_len {pre : List Nat} (h : ∀ r ∈ pre, VR r) : (pre.flatMap encL).length ≤ 4 * pre.length := by
  induction pre with
  | nil => simp
  | cons r t ih =>
    rw [List.flatMap_cons, List.length_append, List.length_cons]
    have := (encL_len (h r (by simp))).2
    have := ih fun x hx => h x (by simp [hx])
    omega
set_option maxRecDepth 100000 in
set_option maxHeartbeats 2000000 in
theorem text_any {w : World} {p at0 : Nat} {rs : List Nat} (h : RD w p rs at0) (h1 : at0 < rs.length) (h2 : rs.length ≤ 300) (hvr : ∀ r ∈ rs, VR r) :
    Calls Tryd.prog 63 #[.pointer (some ⟨p, 0, none⟩)] w (TextP p rs (at0 + 1) w) := by
  obtain ⟨B, hB⟩ : ∃ B, B = w.heap.size := ⟨_, rfl⟩
  have hpB : p < B := by rw [hB]; exact h.lt
  obtain ⟨s, hs⟩ : ∃ s, s = at0 + 1 := ⟨_, rfl⟩
  rw [← hs]
  have hb0 : Below w.heap.size w (w.alloc (.cells #[.pointer none, .slice none 0 0] 64)) := (Below.refl _ _).alloc (Nat.le_refl _) _
  have hR0 := h.below hb0 h.lt
  have HR0 := Lib.hid (hR0.step s)
  have HK0 := Lib.hid (KP.trans' (KP.of_below hb0) (KP.step p (w.alloc (.cells #[.pointer none, .slice none 0 0] 64)) 1 (.int .i64 (s : Int))))
  have hW00 : Wr B B [] (w.alloc (.cells #[.pointer none, .slice none 0 0] 64)) := by rw [hB]; exact Lib.fresh_isBuilder 64 5 w
  have HW0 := Lib.hid (wr_kp hW00 (KP.step p (w.alloc (.cells #[.pointer none, .slice none 0 0] 64)) 1 (.int .i64 (s : Int))) hpB)
  obtain ⟨aa, ca, c0, c1, f1⟩ := hR0.cells
  have HL := Lib.hid (And.intro h1 h2)
  have HVR := Lib.hid hvr
  have HB := Lib.hid hB
  have HPB := Lib.hid hpB
  have HS := Lib.hid hs
  have hw : IntKind.i64.wrap ((at0 : Int) + 1) = (s : Int) := by rw [wrap_at at0 (by omega), hs]
  clear h h1 h2 hb0 hR0 hvr hs hpB hW00
  go_enter Tryd.func63, Tryd.ntmps63
  go_wp2_with fail
  clear c0 c1 f1 hw
  generalize (w.alloc (.cells #[.pointer none, .slice none 0 0] 64)).setCell ⟨p, 1, none⟩ (.int .i64 (s : Int)) = W0 at HR0 HK0 HW0 ⊢
  rw [← hB]
  clear hB
  have HI := Lib.hid (show TextI p B rs s s [] w W0 from ⟨by have := HS.out; have := HL.out; omega, by simp, (addT_nil _).symm, by simp, HR0.out, HK0.out, HW0.out⟩)
  clear HR0 HK0 HW0
  go_loopg [] (rs.length - s) (fun k wl => ∃ a1 pre, Hid (TextI p B rs s a1 pre w wl) ∧ Hid (k = rs.length - a1))
  case atStart => exact ⟨s, [], HI, Lib.hid rfl⟩
  case round =>
    obtain ⟨a1, pre, HA, HK⟩ := hrel
    clear HI
    obtain ⟨v, hv⟩ : ∃ v, v = peekZ (rs.drop a1) := ⟨_, rfl⟩
    have HP : Hid (∀ u, RD u p rs a1 → Calls Tryd.prog 61 #[.pointer (some ⟨p, 0, none⟩), .int .i64 0] u (PeekP p rs a1 v u)) := Lib.hid fun u hu => by
      rw [hv]; exact peek0 hu (by have := HL.out; have := HA.out.1; omega) (by have := HL.out; omega)
    have HV := Lib.hid hv
    clear hv
    cases c : (v != 34)
    · -- the quote
      have HC : Hid ((rs.drop a1).head? = some 34) := Lib.hid (peek_34.1 (by rw [← HV.out]; exact c))
      have HT : Hid (a1 < rs.length ∧ textL (rs.drop s) = some (pre, rs.drop (a1 + 1))) := Lib.hid (by
        have hh := HC.out
        refine ⟨?_, ?_⟩
        · apply Classical.byContradiction; intro hn
          rw [List.drop_eq_nil_of_le (by omega)] at hh; cases hh
        · rw [HA.out.2.2.1, textL_end hh, List.tail_drop]; simp [addT])
      obtain ⟨m, hm⟩ : ∃ m, m = a1 + 1 := ⟨_, rfl⟩
      have HW : Hid (IntKind.i64.wrap ((a1 : Int) + 1) = (m : Int)) := Lib.hid (by rw [wrap_at a1 (by have := HL.out; have := HA.out.1; omega), hm])
      have HM := Lib.hid hm
      clear hm
      go_wp2_with fail
      refine (HP.out _ HA.out.2.2.2.2.1).mono ?_
      rintro e u1 ⟨rfl, hR, hK⟩
      have HR1 := Lib.hid (hR.step m)
      have HK1 := Lib.hid (KP.trans' (KP.trans' HA.out.2.2.2.2.2.1 hK) (KP.step p u1 1 (.int .i64 (m : Int))))
      have HW1 := Lib.hid (wr_kp (wr_kp HA.out.2.2.2.2.2.2 hK HPB.out) (KP.step p u1 1 (.int .i64 (m : Int))) HPB.out)
      obtain ⟨a, cc, c0, c1, f1⟩ := hR.cells
      clear hR hK
      have hw := HW.out
      go_wp2_with fail
      clear c0 c1 f1 hw
      generalize u1.setCell ⟨p, 1, none⟩ (.int .i64 (m : Int)) = W2 at HR1 HK1 HW1 ⊢
      refine (Tryd.Builder_String_any B B (pre.flatMap encL) W2 HW1.out (by rw [HB.out]; exact HK1.out.size)).mono ?_
      rintro e u3 ⟨rfl, hb⟩
      have HR3 := Lib.hid (HR1.out.below hb HPB.out)
      have HK3 := Lib.hid (KP.below HK1.out hb (by rw [HB.out]; exact Nat.le_refl _))
      clear hb
      go_wp2
      go_ret2
      exact TextP.some_mk HT.out.2 (a1 := m) (by have := HT.out.1; have := HM.out; omega) (by rw [HM.out]) rfl HR3.out HK3.out
    · -- a rune
      have HC : Hid (¬ (rs.drop a1).head? = some 34) := Lib.hid (fun hh => by
        have := peek_34.2 hh
        rw [← HV.out, c] at this; cases this)
      cases ho : oneL 34 (rs.drop a1) with
      | none =>
        have HT : Hid (textL (rs.drop s) = none) := Lib.hid (by rw [HA.out.2.2.1, textL_none HC.out ho]; rfl)
        have HO := Lib.hid ho
        clear ho
        go_wp2_with fail
        refine (HP.out _ HA.out.2.2.2.2.1).mono ?_
        rintro e u1 ⟨rfl, hR, hK⟩
        have HR1 := Lib.hid hR
        have HK1 := Lib.hid (KP.trans' HA.out.2.2.2.2.2.1 hK)
        clear hR hK
        go_wp2_with fail
        refine (one_any 34 HR1.out HA.out.1 HL.out.2 HVR.out).mono ?_
        intro e u2 hO
        unfold OneP at hO
        rw [HO.out] at hO
        obtain ⟨y, a2, rfl, hR, hK⟩ := hO
        have HK2 := Lib.hid (KP.trans' HK1.out hK)
        clear hR hK
        go_wp2
        go_ret2
        exact TextP.none_mk HT.out rfl HK2.out
      | some x =>
        obtain ⟨y, t⟩ := x
        have HT : Hid (textL (rs.drop s) = addT (pre ++ [y]) (textL t)) := Lib.hid (by rw [HA.out.2.2.1, textL_some HC.out ho]; cases textL t with | none => rfl | some x => simp [addT])
        have HY : Hid (VR y) := Lib.hid (one_vr ho fun r hr => HVR.out r (List.mem_of_mem_drop hr))
        have HSH := Lib.hid (one_short ho)
        have HO := Lib.hid ho
        clear ho
        go_wp2_with fail
        refine (HP.out _ HA.out.2.2.2.2.1).mono ?_
        rintro e u1 ⟨rfl, hR, hK⟩
        have HR1 := Lib.hid hR
        have HK1 := Lib.hid (KP.trans' HA.out.2.2.2.2.2.1 hK)
        have HW1 := Lib.hid (wr_kp HA.out.2.2.2.2.2.2 hK HPB.out)
        clear hR hK
        go_wp2_with fail
        refine (one_any 34 HR1.out HA.out.1 HL.out.2 HVR.out).mono ?_
        intro e u2 hO
        unfold OneP at hO
        rw [HO.out] at hO
        obtain ⟨a2, h1, h2, rfl, hR, hK⟩ := hO
        have HR2 := Lib.hid hR
        have HK2 := Lib.hid (KP.trans' HK1.out hK)
        have HW2 := Lib.hid (wr_kp HW1.out hK HPB.out)
        have HX := Lib.hid (And.intro h1 h2)
        have hw32 : IntKind.i32.wrap (y : Int) = y := by
          have := HY.out; unfold VR at this
          rw [IntKind.wrap_i32]; omega
        clear hR hK h1 h2
        go_wp2_with fail
        refine (writeRune_any B B _ (y : Int) (by omega) (by have := HY.out; unfold VR at this; omega) u2 HW2.out ?_ (by rw [HB.out]; exact HK2.out.size)).mono ?_
        · rw [Lib.byteCells_length]
          have := vr_len HA.out.2.2.2.1
          have := HA.out.1; have := HA.out.2.1; have := HL.out; omega
        rintro e u3 ⟨⟨n, rfl⟩, h4, hb⟩
        have HN := Lib.hid (show TextI p B rs s a2 (pre ++ [y]) w u3 from ⟨HX.out.1, by
            have := HSH.out; rw [← HX.out.2, List.length_drop, List.length_drop] at this
            rw [List.length_append]; simp; have := HA.out.2.1; have := HA.out.1; omega, by rw [HT.out, HX.out.2], by
            intro r hr
            rcases List.mem_append.1 hr with hr | hr
            · exact HA.out.2.2.2.1 r hr
            · simp at hr; rw [hr]; exact HY.out, HR2.out.below hb HPB.out, KP.below HK2.out hb (by rw [HB.out]; exact Nat.le_refl _), .inr (by
            rw [List.flatMap_append, Lib.byteCells_append, show ([y] : List Nat).flatMap encL = encL y by simp, byteCells_enc HY.out]
            exact h4)⟩)
        clear h4 hb
        go_wp2
        go_roundg (rs.length - a2)
        case measure =>
          have h0 := HSH.out
          rw [← HX.out.2, List.length_drop, List.length_drop] at h0
          have := HK.out; have := HA.out.1; have := HX.out.1; omega
        case rel => exact ⟨a2, pre ++ [y], HN, Lib.hid rfl⟩
/-- What character hands back; it begins one place on. -/
def CharP (p : Nat) (rs : List Nat) (s : Nat) (w : World) (e : Ending) (w' : World) : Prop :=
  match charL (rs.drop s) with
  | some (v, u) => ∃ a1, a1 ≤ rs.length ∧ rs.drop a1 = u ∧ e = .returned (.tuple #[.int .i64 (v : Int), .bool true]) ∧ RD w' p rs a1 ∧ KP p w w'
  | none => e = .returned (.tuple #[.int .i64 0, .bool false]) ∧ KP p w w'
theorem CharP.some_mk {p : Nat} {rs : List Nat} {s : Nat} {w : World} {e : Ending} {w' : World} {v : Nat} {u : List Nat} (h : charL (rs.drop s) = some (v, u)) {a1 : Nat} (h1 : a1 ≤ rs.length) (h2 : rs.drop a1 = u)
    (h3 : e = .returned (.tuple #[.int .i64 (v : Int), .bool true])) (h4 : RD w' p rs a1) (h5 : KP p w w') : CharP p rs s w e w' := by
  unfold CharP; rw [h]; exact ⟨a1, h1, h2, h3, h4, h5⟩
theorem CharP.none_mk {p : Nat} {rs : List Nat} {s : Nat} {w : World} {e : Ending} {w' : World} (h : charL (rs.drop s) = none) (h3 : e = .returned (.tuple #[.int .i64 0, .bool false])) (h5 : KP p w w') : CharP p rs s w e w' := by
  unfold CharP; rw [h]; exact ⟨h3, h5⟩
theorem peek_39 {rs : List Nat} {a : Nat} : (peekZ (rs.drop a) != 39) = false ↔ (rs.drop a).head? = some 39 := by
  by_cases hl : a < rs.length
  · rw [peekZ_at hl, drop_cons hl, bne_eq_false_iff_eq, List.head?_cons, Option.some.injEq]
    omega
  · rw [peekZ_end (by omega), List.drop_eq_nil_of_le (by omega)]
    simp
set_option maxRecDepth 100000 in
set_option maxHeartbeats 2000000 in
theorem character_any {w : World} {p at0 : Nat} {rs : List Nat} (h : RD w p rs at0) (h1 : at0 < rs.length) (h2 : rs.length ≤ 300) (hvr : ∀ r ∈ rs, VR r) :
    Calls Tryd.prog 64 #[.pointer (some ⟨p, 0, none⟩)] w (CharP p rs (at0 + 1) w) := by
  obtain ⟨s, hs⟩ : ∃ s, s = at0 + 1 := ⟨_, rfl⟩
  rw [← hs]
  have HR0 := Lib.hid (h.step s)
  have HK0 := Lib.hid (KP.step p w 1 (.int .i64 (s : Int)))
  obtain ⟨aa, ca, c0, c1, f1⟩ := h.cells
  have HL := Lib.hid (And.intro (show s ≤ rs.length by omega) h2)
  have HVR := Lib.hid hvr
  have hw : IntKind.i64.wrap ((at0 : Int) + 1) = (s : Int) := by rw [wrap_at at0 (by omega), hs]
  clear h h1 h2 hvr hs
  go_enter Tryd.func64, Tryd.ntmps64
  go_wp2_with fail
  clear c0 c1 f1 hw
  generalize w.setCell ⟨p, 1, none⟩ (.int .i64 (s : Int)) = W0 at HR0 HK0 ⊢
  cases ho : oneL 39 (rs.drop s) with
  | none =>
    have HT : Hid (charL (rs.drop s) = none) := Lib.hid (by unfold charL; rw [ho])
    have HO := Lib.hid ho
    clear ho
    refine (one_any 39 HR0.out HL.out.1 HL.out.2 HVR.out).mono ?_
    intro e u2 hO
    unfold OneP at hO
    rw [HO.out] at hO
    obtain ⟨y, a2, rfl, hR, hK⟩ := hO
    have HK2 := Lib.hid (KP.trans' HK0.out hK)
    clear hR hK
    go_wp2
    go_ret2
    exact CharP.none_mk HT.out rfl HK2.out
  | some x =>
    obtain ⟨y, t⟩ := x
    have HO := Lib.hid ho
    clear ho
    refine (one_any 39 HR0.out HL.out.1 HL.out.2 HVR.out).mono ?_
    intro e u2 hO
    unfold OneP at hO
    rw [HO.out] at hO
    obtain ⟨a2, h1, h2, rfl, hR, hK⟩ := hO
    obtain ⟨v, hv⟩ : ∃ v, v = peekZ (rs.drop a2) := ⟨_, rfl⟩
    have HP : Hid (Calls Tryd.prog 61 #[.pointer (some ⟨p, 0, none⟩), .int .i64 0] u2 (PeekP p rs a2 v u2)) := Lib.hid (by
      rw [hv]; exact peek0 hR (by have := HL.out; omega) (by have := HL.out; omega))
    have HV := Lib.hid hv
    have HK2 := Lib.hid (KP.trans' HK0.out hK)
    have HX := Lib.hid (And.intro h1 h2)
    clear hR hK h1 h2 hv
    cases c : (v != 39)
    · have HC : Hid ((rs.drop a2).head? = some 39) := Lib.hid (peek_39.1 (by rw [← HV.out]; exact c))
      have HT : Hid (charL (rs.drop s) = some (y, rs.drop (a2 + 1)) ∧ a2 < rs.length) := Lib.hid ⟨by
        unfold charL; rw [HO.out]; simp only; rw [← HX.out.2, if_pos HC.out, List.tail_drop], by
        have hh := HC.out
        apply Classical.byContradiction; intro hn
        rw [List.drop_eq_nil_of_le (by omega)] at hh; cases hh⟩
      obtain ⟨m, hm⟩ : ∃ m, m = a2 + 1 := ⟨_, rfl⟩
      have HW : Hid (IntKind.i64.wrap ((a2 : Int) + 1) = (m : Int)) := Lib.hid (by rw [wrap_at a2 (by have := HL.out; have := HX.out.1; omega), hm])
      have HM := Lib.hid hm
      clear hm
      go_wp2_with fail
      refine HP.out.mono ?_
      rintro e u3 ⟨rfl, hR, hK⟩
      have HR3 := Lib.hid (hR.step m)
      have HK3 := Lib.hid (KP.trans' (KP.trans' HK2.out hK) (KP.step p u3 1 (.int .i64 (m : Int))))
      obtain ⟨a, cc, c0, c1, f1⟩ := hR.cells
      clear hR hK
      have hw := HW.out
      go_wp2
      go_ret2
      exact CharP.some_mk HT.out.1 (a1 := m) (by have := HT.out.2; have := HM.out; omega) (by rw [HM.out]) rfl HR3.out HK3.out
    · have HT : Hid (charL (rs.drop s) = none) := Lib.hid (by
        unfold charL; rw [HO.out]; simp only; rw [← HX.out.2, if_neg]
        intro hh
        have := peek_39.2 hh
        rw [← HV.out, c] at this; cases this)
      go_wp2_with fail
      refine HP.out.mono ?_
      rintro e u3 ⟨rfl, hR, hK⟩
      have HK3 := Lib.hid (KP.trans' HK2.out hK)
      clear hR hK
      go_wp2
      go_ret2
      exact CharP.none_mk HT.out rfl HK3.out
end Go.Proofs.YtngoipcjipbelaaDoor
