/- lex: tokens. -/
import Derived.Test.YthejefldnpeciaaGreatDoorzL1
import Derived.Laws.Rows
namespace Go.Proofs.YthejefldnpeciaaGreatDoor
set_option linter.unusedVariables false
set_option linter.unusedSimpArgs false
open Go.ChangeShapes Go.WideShapes Go.Deep Go.RowKit

def signL : List UInt8 := [44, 91, 93, 35, 58, 61, 43, 45]
theorem sign_look : ∀ r : Fin 128, decide (0 ≤ Lib.indexByte signL (((r.val : Nat) : Int).toNat.toUInt8)) = signR r.val := by decide +kernel
set_option maxHeartbeats 1000000 in
theorem isSign_any (r : Nat) (hr : r ≤ 1114111) (w : World) : Calls Tryz.prog 60 #[.int .i64 (r : Int)] w (Ret (.bool (signR r)) w) := by
  by_cases c : r < 128
  · have hc : (r : Int) < 128 := by omega
    have hw : IntKind.u8.wrap (r : Int) = r := by rw [IntKind.wrap_u8]; omega
    have h := sign_look ⟨r, c⟩
    simp only at h
    obtain ⟨i, hi⟩ : ∃ i, i = Lib.indexByte signL ((r : Int).toNat.toUInt8) := ⟨_, rfl⟩
    have hI : Calls Tryz.prog 83 #[.string ⟨#[44, 91, 93, 35, 58, 61, 43, 45]⟩, .int .u8 (r : Int)] w fun e w' => e = .returned (.int .i64 i) ∧ w' = w := by
      rw [hi]; exact Tryz.strings_IndexByte ⟨#[44, 91, 93, 35, 58, 61, 43, 45]⟩ (r : Int) w
    rw [← hi] at h
    have HH := Lib.hid h
    have HI := Lib.hid hI
    clear h hi hI c hr
    go_enter Tryz.func60, Tryz.ntmps60
    go_wp2_with fail
    refine HI.out.mono ?_
    rintro e w' ⟨rfl, rfl⟩
    go_wp2
    go_ret
    exact ret_bool (by rw [← HH.out])
  · have hc : ¬ (r : Int) < 128 := by omega
    have HH : Hid (signR r = false) := Lib.hid (by
      unfold signR
      simp only [Bool.or_eq_false_iff, beq_eq_false_iff_ne, ne_eq]
      omega)
    clear c hr
    go_enter Tryz.func60, Tryz.ntmps60
    go_wp2
    go_ret
    exact ret_bool HH.out.symm
-- the builder beside the reader
theorem wr_kp {B b p : Nat} {bs : List Value} {w w' : World} (h : Wr B b bs w) (hk : KP p w w') (hp : p < B) : Wr B b bs w' := by
  have key : ∀ q, WrAt B b q bs w → WrAt B b q bs w' := by
    rintro q ⟨hB, v, hb, hown, hne⟩
    refine ⟨hB, v, ?_, hown.kept hk ?_, hne⟩
    · exact (hk.block b (lt_of_block hb) (by simp; omega)).trans hb
    · cases hv : v.ownBlock with
      | none => exact .inl rfl
      | some g =>
        right
        have := (hown.lt g hv).1
        simp; omega
  exact h.elim (fun x => .inl (key _ x)) (fun x => .inr (key _ x))
theorem KP.below {p B : Nat} {w u u' : World} (h : KP p w u) (hb : Below B u u') (hB : w.heap.size ≤ B) : KP p w u' :=
  ⟨hb.os.trans h.os, hb.tape.trans h.tape, hb.output.trans h.output, Nat.le_trans h.size hb.size, fun k hk hn => (hb.block k (by omega)).trans (h.block k hk hn)⟩
theorem byteCells_enc_ascii {r : Nat} (h : r < 128) : Lib.byteCells (encL r) = [.int .u8 (r : Int)] := by
  rw [encL_ascii h]
  unfold Lib.byteCells
  simp only [List.map_cons, List.map_nil]
  rw [toN (by omega)]
theorem byteCells_enc {r : Nat} (h : VR r) : Lib.byteCells (encL r) = Lib.runeCells (r : Int) := by
  rw [← Lib.byteCells_encodeRune]
  congr 1
  unfold Lib.encodeRune
  rcases encL_cases h with ⟨a, e⟩ | ⟨a, b, e⟩ | ⟨a, b, e⟩ | ⟨a, b, e⟩ <;> rw [e]
  · rw [Lib.encodeRuneZ_one (by omega) (by omega)]; rfl
  · rw [Lib.encodeRuneZ_two (by omega) (by omega)]
    simp only [List.map_cons, List.map_nil]
    congr 1
  · rw [Lib.encodeRuneZ_three (by unfold VR at h; omega)]; rfl
  · rw [Lib.encodeRuneZ_four (by omega) (by omega)]; rfl
set_option maxRecDepth 100000 in
set_option maxHeartbeats 2000000 in
theorem writeRune_any (B b : Nat) (bs : List Value) (r : Int) (hr0 : -2147483648 ≤ r) (hr1 : r ≤ 2147483647) (w : World) (h : Wr B b bs w) (hlen : bs.length + 4 ≤ 1000000) (hBw : B ≤ w.heap.size) :
    Calls Tryz.prog 82 #[.pointer (some ⟨b, 0, none⟩), .int .i32 r] w fun e w' => (∃ n : Int, e = .returned (.tuple #[.int .i64 n, .nilIface])) ∧ WrAt B b (.pointer (some ⟨b, 0, none⟩)) (bs ++ Lib.runeCells r) w' ∧ Below B w w' := by
  have HA : Hid (∀ (v : Value) (u : World), u.ownsRow B 5 1 v bs.length bs → B ≤ u.heap.size → Calls Tryz.prog 98 #[v, .int .i32 r] u fun e w' => ∃ v', e = .returned v' ∧ w'.ownsRow B 5 1 v' (bs.length + (Lib.runeCells r).length) (bs ++ Lib.runeCells r) ∧ ∃ o, (u.alloc o).grownBy w' v.ownBlock) :=
    Lib.hid fun v u hu hb => Tryz.utf8_AppendRune_plain B v bs.length bs r hr0 hr1 u hu (by omega) hb
  have HR := Lib.hid (Lib.runeCells_le r)
  have HL := Lib.hid hlen
  clear hr0 hr1 hlen
  go_enter Tryz.func82, Tryz.ntmps82
  go_wp2_with fail
  refine (copyCheck_any B b bs _ h).mono ?_
  rintro e w1 ⟨rfl, h1, hb1, -⟩
  obtain ⟨hB, v, hbk, hown, hne⟩ := h1
  have HO := Lib.hid hown
  have HB1 := Lib.hid hb1
  have c0 : w1.cell? ⟨b, 0, none⟩ = some (.pointer (some ⟨b, 0, none⟩)) := by rw [Lib.cell_of_heap hbk]; rfl
  have c1 : w1.cell? ⟨b, 1, none⟩ = some v := by rw [Lib.cell_of_heap hbk]; rfl
  obtain ⟨n, hn⟩ : ∃ n, n = bs.length := ⟨_, rfl⟩
  obtain ⟨ao, cap, rfl⟩ : ∃ ao cap, v = .slice ao n cap := by
    rcases hown.2 with ⟨hv, h0⟩ | ⟨g, cap, cur, hv, _⟩
    · exact ⟨_, _, by rw [hv, hn, h0]⟩
    · exact ⟨_, cap, by rw [hv, hn]⟩
  have HN := Lib.hid hn
  have hnw : (n : Int) < 9223372036854775807 := by have := HL.out; omega
  clear hown hb1 hn h hnw
  go_wp2_with fail
  refine (HA.out _ _ HO.out (by have := HB1.out.size; omega)).mono ?_
  rintro e w2 ⟨v', rfl, hown', o, hgrow⟩
  have hb1 := HB1.out
  have hlt : b < w1.heap.size := lt_of_block hbk
  have hb2 : w2.heap[b]? = some (.cells #[.pointer (some ⟨b, 0, none⟩), .slice ao n cap] 126 (0, 0)) := by
    rw [hgrow.block b (by simp; omega) (fun e => hne e.symm), Lib.alloc_old w1 _ b hlt]
    exact hbk
  have HG2 := Lib.hid (show Below B w1 w2 from ((Below.refl B w1).alloc (by have := hb1.size; omega) o).grown hgrow (by have := hb1.size; simp; omega) (fun k hk => (HO.out.lt k hk).1))
  have d0 : w2.cell? ⟨b, 0, none⟩ = some (.pointer (some ⟨b, 0, none⟩)) := by rw [Lib.cell_of_heap hb2]; rfl
  have d1 : w2.cell? ⟨b, 1, none⟩ = some (.slice ao n cap) := by rw [Lib.cell_of_heap hb2]; rfl
  have f1 : w2.frozen? ⟨b, 1, none⟩ = false := Lib.frozen_of_heap hb2 1
  obtain ⟨k, hk⟩ : ∃ k, k = bs.length + (Lib.runeCells r).length := ⟨_, rfl⟩
  rw [← hk] at hown'
  obtain ⟨ao', cap', rfl⟩ : ∃ ao' cap', v' = .slice ao' k cap' := by
    rcases hown'.2 with ⟨hv, h0⟩ | ⟨g, cap, cur, hv, _⟩
    · exact ⟨_, _, by rw [hv, h0]⟩
    · exact ⟨_, _, hv⟩
  have HO2 := Lib.hid hown'
  have HK := Lib.hid hk
  have HB2 := Lib.hid hb2
  have HBK := Lib.hid (And.intro hB hne)
  have hkw : IntKind.i64.wrap ((k : Int) - n) = (k : Int) - n := by
    have := HN.out; have := HL.out; have := HR.out
    rw [IntKind.wrap_i64]; omega
  clear hown' hgrow hb1 hb2 hk hbk hB hne
  go_wp2
  go_ret2
  refine ⟨⟨_, rfl⟩, ?_, ?_⟩
  · exact Lib.BuilderAt.put HBK.out.1 HB2.out (bs' := bs ++ Lib.runeCells r) (by rw [List.length_append, ← HK.out]; exact HO2.out) (by decide)
  · exact (HB1.out.trans HG2.out).setCell (p := ⟨b, 1, none⟩) HBK.out.1 _
open Go.ChangeShapes Go.WideShapes Go.Deep Go.RowKit

def bytesOf (rs : List Nat) : ByteArray := ⟨(rs.flatMap encL).toArray⟩
theorem word_peek {rs : List Nat} {a : Nat} (h : (letterI (peekZ (rs.drop a)) || digI (peekZ (rs.drop a))) = true) :
    ∃ r : Nat, peekZ (rs.drop a) = r ∧ r < 128 ∧ a < rs.length ∧ (rs.drop a).takeWhile wordR = r :: (rs.drop (a + 1)).takeWhile wordR ∧ (rs.drop a).dropWhile wordR = (rs.drop (a + 1)).dropWhile wordR := by
  by_cases hl : a < rs.length
  · rw [peekZ_at hl] at h ⊢
    have hw : wordR rs[a] = true := h
    refine ⟨rs[a], rfl, wordR_lt hw, hl, ?_, ?_⟩
    · rw [drop_cons hl, List.takeWhile_cons_of_pos hw]
    · rw [drop_cons hl, List.dropWhile_cons_of_pos hw]
  · rw [peekZ_end (by omega)] at h
    exact absurd h (by decide)
theorem word_stop {rs : List Nat} {a : Nat} (h : (letterI (peekZ (rs.drop a)) || digI (peekZ (rs.drop a))) = false) :
    (rs.drop a).takeWhile wordR = [] ∧ (rs.drop a).dropWhile wordR = rs.drop a := by
  by_cases hl : a < rs.length
  · rw [peekZ_at hl] at h
    have hw : ¬ wordR rs[a] = true := by rw [show wordR rs[a] = false from h]; decide
    rw [drop_cons hl, List.takeWhile_cons_of_neg hw, List.dropWhile_cons_of_neg hw]
    exact ⟨rfl, rfl⟩
  · rw [List.drop_eq_nil_of_le (by omega)]; exact ⟨rfl, rfl⟩
def NameI (p B : Nat) (rs : List Nat) (at0 a1 : Nat) (pre : List Nat) (w wl : World) : Prop :=
  a1 ≤ rs.length ∧ pre.length ≤ a1 ∧ (rs.drop at0).takeWhile wordR = pre ++ (rs.drop a1).takeWhile wordR ∧ (rs.drop at0).dropWhile wordR = (rs.drop a1).dropWhile wordR ∧ (∀ r ∈ pre, r < 128) ∧
    RD wl p rs a1 ∧ KP p w wl ∧ Wr B B (Lib.byteCells (pre.flatMap encL)) wl
def NameP (p : Nat) (rs : List Nat) (at0 : Nat) (w : World) (e : Ending) (w' : World) : Prop :=
  e = .returned (.string (bytesOf ((rs.drop at0).takeWhile wordR))) ∧ ∃ a1, a1 ≤ rs.length ∧ rs.drop a1 = (rs.drop at0).dropWhile wordR ∧ RD w' p rs a1 ∧ KP p w w'
theorem ascii_len {pre : List Nat} (h : ∀ r ∈ pre, r < 128) : (pre.flatMap encL).length = pre.length := by
  induction pre with
  | nil => rfl
  | cons r t ih =>
    rw [List.flatMap_cons, List.length_append, encL_ascii (h r (by simp)), ih fun x hx => h x (by simp [hx])]
    simp; omega
set_option maxRecDepth 100000 in
set_option maxHeartbeats 2000000 in
theorem name_any {w : World} {p at0 : Nat} {rs : List Nat} (h : RD w p rs at0) (h1 : at0 ≤ rs.length) (h2 : rs.length ≤ 300) :
    Calls Tryz.prog 56 #[.pointer (some ⟨p, 0, none⟩)] w (NameP p rs at0 w) := by
  obtain ⟨B, hB⟩ : ∃ B, B = w.heap.size := ⟨_, rfl⟩
  have hpB : p < B := by rw [hB]; exact h.lt
  have hb0 : Below w.heap.size w (w.alloc (.cells #[.pointer none, .slice none 0 0] 126)) := (Below.refl _ _).alloc (Nat.le_refl _) _
  have HI := Lib.hid (show NameI p B rs at0 at0 [] w (w.alloc (.cells #[.pointer none, .slice none 0 0] 126)) from
    ⟨h1, by simp, rfl, rfl, by simp, h.below hb0 h.lt, KP.of_below hb0, by rw [hB]; exact Lib.fresh_isBuilder 126 5 w⟩)
  have HL := Lib.hid h2
  have HB := Lib.hid hB
  have HPB := Lib.hid hpB
  clear h h1 h2 hb0 hpB
  go_enter Tryz.func56, Tryz.ntmps56
  go_wp2_with fail
  rw [← hB]
  clear hB
  go_loopg [] (rs.length - at0) (fun k wl => ∃ a1 pre, Hid (NameI p B rs at0 a1 pre w wl) ∧ Hid (k = rs.length - a1))
  case atStart => exact ⟨at0, [], HI, Lib.hid rfl⟩
  case round =>
    obtain ⟨a1, pre, HA, HK⟩ := hrel
    clear HI
    obtain ⟨v, hv⟩ : ∃ v, v = peekZ (rs.drop a1) := ⟨_, rfl⟩
    have HP : Hid (∀ u, RD u p rs a1 → Calls Tryz.prog 54 #[.pointer (some ⟨p, 0, none⟩), .int .i64 0] u (PeekP p rs a1 v u)) := Lib.hid fun u hu => by
      rw [hv]; exact peek0 hu (by have := HL.out; have := HA.out.1; omega) (by have := HL.out; omega)
    have HV := Lib.hid hv
    clear hv
    cases c : (letterI v || digI v)
    · -- no more
      have c1 : letterI v = false := (Bool.or_eq_false_iff.1 c).1
      have c2 : digI v = false := (Bool.or_eq_false_iff.1 c).2
      have HS := Lib.hid (word_stop (rs := rs) (a := a1) (by rw [← HV.out]; exact c))
      clear c
      go_wp2_with fail
      refine (HP.out _ HA.out.2.2.2.2.2.1).mono ?_
      rintro e u1 ⟨rfl, hR, hK⟩
      have HR1 := Lib.hid hR
      have HK1 := Lib.hid (KP.trans' HA.out.2.2.2.2.2.2.1 hK)
      have HW1 := Lib.hid (wr_kp HA.out.2.2.2.2.2.2.2 hK HPB.out)
      clear hR hK
      go_wp2_with fail
      refine (isLetter_any _ _).mono ?_
      rintro e w' ⟨rfl, rfl⟩
      go_wp2_with fail
      refine (HP.out _ HR1.out).mono ?_
      rintro e u2 ⟨rfl, hR, hK⟩
      have HR2 := Lib.hid hR
      have HK2 := Lib.hid (KP.trans' HK1.out hK)
      have HW2 := Lib.hid (wr_kp HW1.out hK HPB.out)
      clear hR hK
      go_wp2_with fail
      refine (isDigit_any _ _).mono ?_
      rintro e w' ⟨rfl, rfl⟩
      go_wp2_with fail
      refine (Tryz.Builder_String_any B B (pre.flatMap encL) u2 HW2.out (by rw [HB.out]; exact HK2.out.size)).mono ?_
      rintro e u3 ⟨rfl, hb⟩
      have HR3 := Lib.hid (HR2.out.below hb HPB.out)
      have HK3 := Lib.hid (KP.below HK2.out hb (by rw [HB.out]; exact Nat.le_refl _))
      clear hb
      go_wp2
      go_ret
      refine ⟨?_, a1, HA.out.1, ?_, HR3.out, HK3.out⟩
      · rw [HA.out.2.2.1, HS.out.1, List.append_nil]; rfl
      · rw [HA.out.2.2.2.1, HS.out.2]
    · -- one more
      have HS := Lib.hid (word_peek (rs := rs) (a := a1) (by rw [← HV.out]; exact c))
      obtain ⟨r, hr, hr128, -, -, -⟩ := HS.out
      rw [← HV.out] at hr
      subst hr
      have hw8 : IntKind.u8.wrap (r : Int) = r := by rw [IntKind.wrap_u8]; omega
      have HW : Hid (IntKind.i64.wrap ((a1 : Int) + 1) = ((a1 + 1 : Nat) : Int)) := Lib.hid (wrap_at a1 (by have := HL.out; have := HA.out.1; omega))
      obtain ⟨m, hm⟩ : ∃ m, m = a1 + 1 := ⟨_, rfl⟩
      rw [← hm] at HW
      have HM := Lib.hid hm
      have HR128 := Lib.hid hr128
      clear hm hr128
      go_wp2_with fail
      refine (HP.out _ HA.out.2.2.2.2.2.1).mono ?_
      rintro e u1 ⟨rfl, hR, hK⟩
      have HR1 := Lib.hid hR
      have HK1 := Lib.hid (KP.trans' HA.out.2.2.2.2.2.2.1 hK)
      have HW1 := Lib.hid (wr_kp HA.out.2.2.2.2.2.2.2 hK HPB.out)
      clear hR hK
      go_wp2_with fail
      refine (isLetter_any _ _).mono ?_
      rintro e w' ⟨rfl, rfl⟩
      have HST : Hid (∀ u, RD u p rs a1 → KP p w u → Wr B B (Lib.byteCells (pre.flatMap encL)) u → Calls Tryz.prog 79 #[.pointer (some ⟨B, 0, none⟩), .int .u8 (r : Int)] u fun e w' => e = .returned .nilIface ∧ RD w' p rs a1 ∧ KP p w w' ∧ Wr B B (Lib.byteCells ((pre ++ [r]).flatMap encL)) w') := Lib.hid fun u h1 h2 h3 => by
        refine (writeByte_any B B _ (r : Int) u h3 ?_ (by rw [HB.out]; exact h2.size)).mono ?_
        · rw [Lib.byteCells_length, ascii_len HA.out.2.2.2.2.1]
          have := HA.out.2.1; have := HA.out.1; have := HL.out; omega
        · rintro e w' ⟨he, h4, hb, -⟩
          refine ⟨he, h1.below hb HPB.out, KP.below h2 hb (by rw [HB.out]; exact Nat.le_refl _), .inr ?_⟩
          rw [List.flatMap_append, Lib.byteCells_append, show ([r] : List Nat).flatMap encL = encL r by simp, byteCells_enc_ascii HR128.out]
          exact h4
      have HEND : Hid (∀ u, RD u p rs a1 → KP p w u → Wr B B (Lib.byteCells ((pre ++ [r]).flatMap encL)) u → NameI p B rs at0 m (pre ++ [r]) w (u.setCell ⟨p, 1, none⟩ (.int .i64 (m : Int))) ∧ rs.length - m < gk) := Lib.hid fun u h1 h2 h3 => by
        obtain ⟨r', e1, e2, e3, e4, e5⟩ := HS.out
        have er : r' = r := by rw [← HV.out] at e1; omega
        subst er
        obtain ⟨q1, q2, q3, q4, q5, -⟩ := HA.out
        have hm := HM.out
        refine ⟨⟨by omega, by rw [List.length_append]; simp; omega, ?_, ?_, ?_, h1.step m, KP.trans' h2 (KP.step _ _ _ _), wr_kp h3 (KP.step _ _ _ _) HPB.out⟩, by have := HK.out; omega⟩
        · rw [q3, e4, hm]; simp
        · rw [q4, e5, hm]
        · intro x hx
          rcases List.mem_append.1 hx with hx | hx
          · exact q5 x hx
          · simp at hx; rw [hx]; exact e2
      cases d : letterI (r : Int)
      · have c2 : digI (r : Int) = true := by rw [d] at c; simpa using c
        clear c
        go_wp2_with fail
        refine (HP.out _ HR1.out).mono ?_
        rintro e u2 ⟨rfl, hR, hK⟩
        have HR2 := Lib.hid hR
        have HK2 := Lib.hid (KP.trans' HK1.out hK)
        have HW2 := Lib.hid (wr_kp HW1.out hK HPB.out)
        clear hR hK
        go_wp2_with fail
        refine (isDigit_any _ _).mono ?_
        rintro e w' ⟨rfl, rfl⟩
        go_wp2_with fail
        refine (HP.out _ HR2.out).mono ?_
        rintro e u3 ⟨rfl, hR, hK⟩
        have HR3 := Lib.hid hR
        have HK3 := Lib.hid (KP.trans' HK2.out hK)
        have HW3 := Lib.hid (wr_kp HW2.out hK HPB.out)
        clear hR hK
        go_wp2_with fail
        refine (HST.out _ HR3.out HK3.out HW3.out).mono ?_
        rintro e u4 ⟨rfl, hR, hK, hW⟩
        have HE := Lib.hid (HEND.out _ hR hK hW)
        obtain ⟨a, cc, c0, c1, f1⟩ := hR.cells
        clear hR hK hW
        have hw := HW.out
        go_wp2
        go_roundg (rs.length - m)
        case measure => exact HE.out.2
        case rel => exact ⟨m, pre ++ [r], Lib.hid HE.out.1, Lib.hid rfl⟩
      · clear c
        go_wp2_with fail
        refine (HP.out _ HR1.out).mono ?_
        rintro e u3 ⟨rfl, hR, hK⟩
        have HR3 := Lib.hid hR
        have HK3 := Lib.hid (KP.trans' HK1.out hK)
        have HW3 := Lib.hid (wr_kp HW1.out hK HPB.out)
        clear hR hK
        go_wp2_with fail
        refine (HST.out _ HR3.out HK3.out HW3.out).mono ?_
        rintro e u4 ⟨rfl, hR, hK, hW⟩
        have HE := Lib.hid (HEND.out _ hR hK hW)
        obtain ⟨a, cc, c0, c1, f1⟩ := hR.cells
        clear hR hK hW
        have hw := HW.out
        go_wp2
        go_roundg (rs.length - m)
        case measure => exact HE.out.2
        case rel => exact ⟨m, pre ++ [r], Lib.hid HE.out.1, Lib.hid rfl⟩
open Go.ChangeShapes Go.WideShapes Go.Deep Go.RowKit

theorem one_vr {q v : Nat} {l t : List Nat} (h : oneL q l = some (v, t)) (hl : ∀ r ∈ l, VR r) : VR v := by
  rcases one_spec h with ⟨c, rfl, hm⟩ | ⟨rfl, -⟩
  · unfold meantL at hm
    repeat (split at hm; · cases hm; exact .inl (by omega))
    cases hm
  · exact hl v (by simp)
def addT (acc : List Nat) (o : Option (List Nat × List Nat)) : Option (List Nat × List Nat) := match o with | none => none | some (vs, u) => some (acc ++ vs, u)
theorem addT_nil (o : Option (List Nat × List Nat)) : addT [] o = o := by cases o with | none => rfl | some x => rfl
theorem addT_more (acc : List Nat) (v : Nat) (o : Option (List Nat × List Nat)) : addT acc (match o with | none => none | some (vs, u) => some (v :: vs, u)) = addT (acc ++ [v]) o := by
  cases o with | none => rfl | some x => simp [addT]
def TextI (p B : Nat) (rs : List Nat) (s a1 : Nat) (pre : List Nat) (w wl : World) : Prop :=
  a1 ≤ rs.length ∧ pre.length ≤ a1 ∧ textL (rs.drop s) = addT pre (textL (rs.drop a1)) ∧ (∀ r ∈ pre, VR r) ∧ RD wl p rs a1 ∧ KP p w wl ∧ Wr B B (Lib.byteCells (pre.flatMap encL)) wl
/-- What text hands back; it begins one place on. -/
def TextP (p : Nat) (rs : List Nat) (s : Nat) (w : World) (e : Ending) (w' : World) : Prop :=
  match textL (rs.drop s) with
  | some (vs, u) => ∃ a1, a1 ≤ rs.length ∧ rs.drop a1 = u ∧ e = .returned (.tuple #[.string (bytesOf vs), .bool true]) ∧ RD w' p rs a1 ∧ KP p w w'
  | none => e = .returned (.tuple #[.string ⟨#[]⟩, .bool false]) ∧ KP p w w'
theorem TextP.some_mk {p : Nat} {rs : List Nat} {s : Nat} {w : World} {e : Ending} {w' : World} {vs u : List Nat} (h : textL (rs.drop s) = some (vs, u)) {a1 : Nat} (h1 : a1 ≤ rs.length) (h2 : rs.drop a1 = u)
    (h3 : e = .returned (.tuple #[.string (bytesOf vs), .bool true])) (h4 : RD w' p rs a1) (h5 : KP p w w') : TextP p rs s w e w' := by
  unfold TextP; rw [h]; exact ⟨a1, h1, h2, h3, h4, h5⟩
theorem TextP.none_mk {p : Nat} {rs : List Nat} {s : Nat} {w : World} {e : Ending} {w' : World} (h : textL (rs.drop s) = none) (h3 : e = .returned (.tuple #[.string ⟨#[]⟩, .bool false])) (h5 : KP p w w') : TextP p rs s w e w' := by
  unfold TextP; rw [h]; exact ⟨h3, h5⟩
theorem peek_34 {rs : List Nat} {a : Nat} : (peekZ (rs.drop a) != 34) = false ↔ (rs.drop a).head? = some 34 := by
  by_cases hl : a < rs.length
  · rw [peekZ_at hl, drop_cons hl, bne_eq_false_iff_eq, List.head?_cons, Option.some.injEq]
    omega
  · rw [peekZ_end (by omega), List.drop_eq_nil_of_le (by omega)]
    simp
theorem vr_len {pre : List Nat} (h : ∀ r ∈ pre, VR r) : (pre.flatMap encL).length ≤ 4 * pre.length := by
  induction pre with
  | nil => simp
  | cons r t ih =>
    rw [List.flatMap_cons, List.length_append, List.length_cons]
    have := (encL_len (h r (by simp))).2
    have := ih fun x hx => h x (by simp [hx])
    omega
set_option maxRecDepth 100000 in
set_option maxHeartbeats 2000000 in
theorem text_any {w : World} {p at0 : Nat} {rs : List Nat} (h : RD w p rs at0) (h1 : at0 < rs.length) (h2 : rs.length ≤ 300) (hvr : ∀ r ∈ rs, VR r) :
    Calls Tryz.prog 58 #[.pointer (some ⟨p, 0, none⟩)] w (TextP p rs (at0 + 1) w) := by
  obtain ⟨B, hB⟩ : ∃ B, B = w.heap.size := ⟨_, rfl⟩
  have hpB : p < B := by rw [hB]; exact h.lt
  obtain ⟨s, hs⟩ : ∃ s, s = at0 + 1 := ⟨_, rfl⟩
  rw [← hs]
  have hb0 : Below w.heap.size w (w.alloc (.cells #[.pointer none, .slice none 0 0] 126)) := (Below.refl _ _).alloc (Nat.le_refl _) _
  have hR0 := h.below hb0 h.lt
  have HR0 := Lib.hid (hR0.step s)
  have HK0 := Lib.hid (KP.trans' (KP.of_below hb0) (KP.step p (w.alloc (.cells #[.pointer none, .slice none 0 0] 126)) 1 (.int .i64 (s : Int))))
  have hW00 : Wr B B [] (w.alloc (.cells #[.pointer none, .slice none 0 0] 126)) := by rw [hB]; exact Lib.fresh_isBuilder 126 5 w
  have HW0 := Lib.hid (wr_kp hW00 (KP.step p (w.alloc (.cells #[.pointer none, .slice none 0 0] 126)) 1 (.int .i64 (s : Int))) hpB)
  obtain ⟨aa, ca, c0, c1, f1⟩ := hR0.cells
  have HL := Lib.hid (And.intro h1 h2)
  have HVR := Lib.hid hvr
  have HB := Lib.hid hB
  have HPB := Lib.hid hpB
  have HS := Lib.hid hs
  have hw : IntKind.i64.wrap ((at0 : Int) + 1) = (s : Int) := by rw [wrap_at at0 (by omega), hs]
  clear h h1 h2 hb0 hR0 hvr hs hpB hW00
  go_enter Tryz.func58, Tryz.ntmps58
  go_wp2_with fail
  clear c0 c1 f1 hw
  generalize (w.alloc (.cells #[.pointer none, .slice none 0 0] 126)).setCell ⟨p, 1, none⟩ (.int .i64 (s : Int)) = W0 at HR0 HK0 HW0 ⊢
  rw [← hB]
  clear hB
  have HI := Lib.hid (show TextI p B rs s s [] w W0 from ⟨by have := HS.out; have := HL.out; omega, by simp, (addT_nil _).symm, by simp, HR0.out, HK0.out, HW0.out⟩)
  clear HR0 HK0 HW0
  go_loopg [] (rs.length - s) (fun k wl => ∃ a1 pre, Hid (TextI p B rs s a1 pre w wl) ∧ Hid (k = rs.length - a1))
  case atStart => exact ⟨s, [], HI, Lib.hid rfl⟩
  case round =>
    obtain ⟨a1, pre, HA, HK⟩ := hrel
    clear HI
    obtain ⟨v, hv⟩ : ∃ v, v = peekZ (rs.drop a1) := ⟨_, rfl⟩
    have HP : Hid (∀ u, RD u p rs a1 → Calls Tryz.prog 54 #[.pointer (some ⟨p, 0, none⟩), .int .i64 0] u (PeekP p rs a1 v u)) := Lib.hid fun u hu => by
      rw [hv]; exact peek0 hu (by have := HL.out; have := HA.out.1; omega) (by have := HL.out; omega)
    have HV := Lib.hid hv
    clear hv
    cases c : (v != 34)
    · -- the quote
      have HC : Hid ((rs.drop a1).head? = some 34) := Lib.hid (peek_34.1 (by rw [← HV.out]; exact c))
      have HT : Hid (a1 < rs.length ∧ textL (rs.drop s) = some (pre, rs.drop (a1 + 1))) := Lib.hid (by
        have hh := HC.out
        refine ⟨?_, ?_⟩
        · apply Classical.byContradiction; intro hn
          rw [List.drop_eq_nil_of_le (by omega)] at hh; cases hh
        · rw [HA.out.2.2.1, textL_end hh, List.tail_drop]; simp [addT])
      obtain ⟨m, hm⟩ : ∃ m, m = a1 + 1 := ⟨_, rfl⟩
      have HW : Hid (IntKind.i64.wrap ((a1 : Int) + 1) = (m : Int)) := Lib.hid (by rw [wrap_at a1 (by have := HL.out; have := HA.out.1; omega), hm])
      have HM := Lib.hid hm
      clear hm
      go_wp2_with fail
      refine (HP.out _ HA.out.2.2.2.2.1).mono ?_
      rintro e u1 ⟨rfl, hR, hK⟩
      have HR1 := Lib.hid (hR.step m)
      have HK1 := Lib.hid (KP.trans' (KP.trans' HA.out.2.2.2.2.2.1 hK) (KP.step p u1 1 (.int .i64 (m : Int))))
      have HW1 := Lib.hid (wr_kp (wr_kp HA.out.2.2.2.2.2.2 hK HPB.out) (KP.step p u1 1 (.int .i64 (m : Int))) HPB.out)
      obtain ⟨a, cc, c0, c1, f1⟩ := hR.cells
      clear hR hK
      have hw := HW.out
      go_wp2_with fail
      clear c0 c1 f1 hw
      generalize u1.setCell ⟨p, 1, none⟩ (.int .i64 (m : Int)) = W2 at HR1 HK1 HW1 ⊢
      refine (Tryz.Builder_String_any B B (pre.flatMap encL) W2 HW1.out (by rw [HB.out]; exact HK1.out.size)).mono ?_
      rintro e u3 ⟨rfl, hb⟩
      have HR3 := Lib.hid (HR1.out.below hb HPB.out)
      have HK3 := Lib.hid (KP.below HK1.out hb (by rw [HB.out]; exact Nat.le_refl _))
      clear hb
      go_wp2
      go_ret2
      exact TextP.some_mk HT.out.2 (a1 := m) (by have := HT.out.1; have := HM.out; omega) (by rw [HM.out]) rfl HR3.out HK3.out
    · -- a rune
      have HC : Hid (¬ (rs.drop a1).head? = some 34) := Lib.hid (fun hh => by
        have := peek_34.2 hh
        rw [← HV.out, c] at this; cases this)
      cases ho : oneL 34 (rs.drop a1) with
      | none =>
        have HT : Hid (textL (rs.drop s) = none) := Lib.hid (by rw [HA.out.2.2.1, textL_none HC.out ho]; rfl)
        have HO := Lib.hid ho
        clear ho
        go_wp2_with fail
        refine (HP.out _ HA.out.2.2.2.2.1).mono ?_
        rintro e u1 ⟨rfl, hR, hK⟩
        have HR1 := Lib.hid hR
        have HK1 := Lib.hid (KP.trans' HA.out.2.2.2.2.2.1 hK)
        clear hR hK
        go_wp2_with fail
        refine (one_any 34 HR1.out HA.out.1 HL.out.2 HVR.out).mono ?_
        intro e u2 hO
        unfold OneP at hO
        rw [HO.out] at hO
        obtain ⟨y, a2, rfl, hR, hK⟩ := hO
        have HK2 := Lib.hid (KP.trans' HK1.out hK)
        clear hR hK
        go_wp2
        go_ret2
        exact TextP.none_mk HT.out rfl HK2.out
      | some x =>
        obtain ⟨y, t⟩ := x
        have HT : Hid (textL (rs.drop s) = addT (pre ++ [y]) (textL t)) := Lib.hid (by rw [HA.out.2.2.1, textL_some HC.out ho]; cases textL t with | none => rfl | some x => simp [addT])
        have HY : Hid (VR y) := Lib.hid (one_vr ho fun r hr => HVR.out r (List.mem_of_mem_drop hr))
        have HSH := Lib.hid (one_short ho)
        have HO := Lib.hid ho
        clear ho
        go_wp2_with fail
        refine (HP.out _ HA.out.2.2.2.2.1).mono ?_
        rintro e u1 ⟨rfl, hR, hK⟩
        have HR1 := Lib.hid hR
        have HK1 := Lib.hid (KP.trans' HA.out.2.2.2.2.2.1 hK)
        have HW1 := Lib.hid (wr_kp HA.out.2.2.2.2.2.2 hK HPB.out)
        clear hR hK
        go_wp2_with fail
        refine (one_any 34 HR1.out HA.out.1 HL.out.2 HVR.out).mono ?_
        intro e u2 hO
        unfold OneP at hO
        rw [HO.out] at hO
        obtain ⟨a2, h1, h2, rfl, hR, hK⟩ := hO
        have HR2 := Lib.hid hR
        have HK2 := Lib.hid (KP.trans' HK1.out hK)
        have HW2 := Lib.hid (wr_kp HW1.out hK HPB.out)
        have HX := Lib.hid (And.intro h1 h2)
        have hw32 : IntKind.i32.wrap (y : Int) = y := by
          have := HY.out; unfold VR at this
          rw [IntKind.wrap_i32]; omega
        clear hR hK h1 h2
        go_wp2_with fail
        refine (writeRune_any B B _ (y : Int) (by omega) (by have := HY.out; unfold VR at this; omega) u2 HW2.out ?_ (by rw [HB.out]; exact HK2.out.size)).mono ?_
        · rw [Lib.byteCells_length]
          have := vr_len HA.out.2.2.2.1
          have := HA.out.1; have := HA.out.2.1; have := HL.out; omega
        rintro e u3 ⟨⟨n, rfl⟩, h4, hb⟩
        have HN := Lib.hid (show TextI p B rs s a2 (pre ++ [y]) w u3 from ⟨HX.out.1, by
            have := HSH.out; rw [← HX.out.2, List.length_drop, List.length_drop] at this
            rw [List.length_append]; simp; have := HA.out.2.1; have := HA.out.1; omega, by rw [HT.out, HX.out.2], by
            intro r hr
            rcases List.mem_append.1 hr with hr | hr
            · exact HA.out.2.2.2.1 r hr
            · simp at hr; rw [hr]; exact HY.out, HR2.out.below hb HPB.out, KP.below HK2.out hb (by rw [HB.out]; exact Nat.le_refl _), .inr (by
            rw [List.flatMap_append, Lib.byteCells_append, show ([y] : List Nat).flatMap encL = encL y by simp, byteCells_enc HY.out]
            exact h4)⟩)
        clear h4 hb
        go_wp2
        go_roundg (rs.length - a2)
        case measure =>
          have h0 := HSH.out
          rw [← HX.out.2, List.length_drop, List.length_drop] at h0
          have := HK.out; have := HA.out.1; have := HX.out.1; omega
        case rel => exact ⟨a2, pre ++ [y], HN, Lib.hid rfl⟩
/-- What character hands back; it begins one place on. -/
def CharP (p : Nat) (rs : List Nat) (s : Nat) (w : World) (e : Ending) (w' : World) : Prop :=
  match charL (rs.drop s) with
  | some (v, u) => ∃ a1, a1 ≤ rs.length ∧ rs.drop a1 = u ∧ e = .returned (.tuple #[.int .i64 (v : Int), .bool true]) ∧ RD w' p rs a1 ∧ KP p w w'
  | none => e = .returned (.tuple #[.int .i64 0, .bool false]) ∧ KP p w w'
theorem CharP.some_mk {p : Nat} {rs : List Nat} {s : Nat} {w : World} {e : Ending} {w' : World} {v : Nat} {u : List Nat} (h : charL (rs.drop s) = some (v, u)) {a1 : Nat} (h1 : a1 ≤ rs.length) (h2 : rs.drop a1 = u)
    (h3 : e = .returned (.tuple #[.int .i64 (v : Int), .bool true])) (h4 : RD w' p rs a1) (h5 : KP p w w') : CharP p rs s w e w' := by
  unfold CharP; rw [h]; exact ⟨a1, h1, h2, h3, h4, h5⟩
theorem CharP.none_mk {p : Nat} {rs : List Nat} {s : Nat} {w : World} {e : Ending} {w' : World} (h : charL (rs.drop s) = none) (h3 : e = .returned (.tuple #[.int .i64 0, .bool false])) (h5 : KP p w w') : CharP p rs s w e w' := by
  unfold CharP; rw [h]; exact ⟨h3, h5⟩
theorem peek_39 {rs : List Nat} {a : Nat} : (peekZ (rs.drop a) != 39) = false ↔ (rs.drop a).head? = some 39 := by
  by_cases hl : a < rs.length
  · rw [peekZ_at hl, drop_cons hl, bne_eq_false_iff_eq, List.head?_cons, Option.some.injEq]
    omega
  · rw [peekZ_end (by omega), List.drop_eq_nil_of_le (by omega)]
    simp
set_option maxRecDepth 100000 in
set_option maxHeartbeats 2000000 in
theorem character_any {w : World} {p at0 : Nat} {rs : List Nat} (h : RD w p rs at0) (h1 : at0 < rs.length) (h2 : rs.length ≤ 300) (hvr : ∀ r ∈ rs, VR r) :
    Calls Tryz.prog 59 #[.pointer (some ⟨p, 0, none⟩)] w (CharP p rs (at0 + 1) w) := by
  obtain ⟨s, hs⟩ : ∃ s, s = at0 + 1 := ⟨_, rfl⟩
  rw [← hs]
  have HR0 := Lib.hid (h.step s)
  have HK0 := Lib.hid (KP.step p w 1 (.int .i64 (s : Int)))
  obtain ⟨aa, ca, c0, c1, f1⟩ := h.cells
  have HL := Lib.hid (And.intro (show s ≤ rs.length by omega) h2)
  have HVR := Lib.hid hvr
  have hw : IntKind.i64.wrap ((at0 : Int) + 1) = (s : Int) := by rw [wrap_at at0 (by omega), hs]
  clear h h1 h2 hvr hs
  go_enter Tryz.func59, Tryz.ntmps59
  go_wp2_with fail
  clear c0 c1 f1 hw
  generalize w.setCell ⟨p, 1, none⟩ (.int .i64 (s : Int)) = W0 at HR0 HK0 ⊢
  cases ho : oneL 39 (rs.drop s) with
  | none =>
    have HT : Hid (charL (rs.drop s) = none) := Lib.hid (by unfold charL; rw [ho])
    have HO := Lib.hid ho
    clear ho
    refine (one_any 39 HR0.out HL.out.1 HL.out.2 HVR.out).mono ?_
    intro e u2 hO
    unfold OneP at hO
    rw [HO.out] at hO
    obtain ⟨y, a2, rfl, hR, hK⟩ := hO
    have HK2 := Lib.hid (KP.trans' HK0.out hK)
    clear hR hK
    go_wp2
    go_ret2
    exact CharP.none_mk HT.out rfl HK2.out
  | some x =>
    obtain ⟨y, t⟩ := x
    have HO := Lib.hid ho
    clear ho
    refine (one_any 39 HR0.out HL.out.1 HL.out.2 HVR.out).mono ?_
    intro e u2 hO
    unfold OneP at hO
    rw [HO.out] at hO
    obtain ⟨a2, h1, h2, rfl, hR, hK⟩ := hO
    obtain ⟨v, hv⟩ : ∃ v, v = peekZ (rs.drop a2) := ⟨_, rfl⟩
    have HP : Hid (Calls Tryz.prog 54 #[.pointer (some ⟨p, 0, none⟩), .int .i64 0] u2 (PeekP p rs a2 v u2)) := Lib.hid (by
      rw [hv]; exact peek0 hR (by have := HL.out; omega) (by have := HL.out; omega))
    have HV := Lib.hid hv
    have HK2 := Lib.hid (KP.trans' HK0.out hK)
    have HX := Lib.hid (And.intro h1 h2)
    clear hR hK h1 h2 hv
    cases c : (v != 39)
    · have HC : Hid ((rs.drop a2).head? = some 39) := Lib.hid (peek_39.1 (by rw [← HV.out]; exact c))
      have HT : Hid (charL (rs.drop s) = some (y, rs.drop (a2 + 1)) ∧ a2 < rs.length) := Lib.hid ⟨by
        unfold charL; rw [HO.out]; simp only; rw [← HX.out.2, if_pos HC.out, List.tail_drop], by
        have hh := HC.out
        apply Classical.byContradiction; intro hn
        rw [List.drop_eq_nil_of_le (by omega)] at hh; cases hh⟩
      obtain ⟨m, hm⟩ : ∃ m, m = a2 + 1 := ⟨_, rfl⟩
      have HW : Hid (IntKind.i64.wrap ((a2 : Int) + 1) = (m : Int)) := Lib.hid (by rw [wrap_at a2 (by have := HL.out; have := HX.out.1; omega), hm])
      have HM := Lib.hid hm
      clear hm
      go_wp2_with fail
      refine HP.out.mono ?_
      rintro e u3 ⟨rfl, hR, hK⟩
      have HR3 := Lib.hid (hR.step m)
      have HK3 := Lib.hid (KP.trans' (KP.trans' HK2.out hK) (KP.step p u3 1 (.int .i64 (m : Int))))
      obtain ⟨a, cc, c0, c1, f1⟩ := hR.cells
      clear hR hK
      have hw := HW.out
      go_wp2
      go_ret2
      exact CharP.some_mk HT.out.1 (a1 := m) (by have := HT.out.2; have := HM.out; omega) (by rw [HM.out]) rfl HR3.out HK3.out
    · have HT : Hid (charL (rs.drop s) = none) := Lib.hid (by
        unfold charL; rw [HO.out]; simp only; rw [← HX.out.2, if_neg]
        intro hh
        have := peek_39.2 hh
        rw [← HV.out, c] at this; cases this)
      go_wp2_with fail
      refine HP.out.mono ?_
      rintro e u3 ⟨rfl, hR, hK⟩
      have HK3 := Lib.hid (KP.trans' HK2.out hK)
      clear hR hK
      go_wp2
      go_ret2
      exact CharP.none_mk HT.out rfl HK3.out
open Go.ChangeShapes Go.WideShapes Go.Deep Go.RowKit

section
variable {P : Program}
/-- Two results: a struct in a variable of its own, and another one. -/
theorem results_cell_two {fn : Func} {p q : Tmp} {ty : TypeId} (h : fn.results = #[.cell p ty, .tmp q]) (tmps : Array Value) (w : World) (g : Nat) (t : TypeId) (cs : Array Value) (fr : Nat × Nat) (d : TypeDesc) (x : Value)
    (hp : tmps.getD p undef = .pointer (some ⟨g, 0, none⟩)) (hg : w.heap[g]? = some (.cells cs t fr))
    (hu : P.underlying ty = some d) (hd : (match d with | .struct _ | .array _ _ => true | _ => false) = true) (hi : (P.info? ty).map (·.size) = some cs.size) (hx : tmps.getD q undef = x) :
    (results fn tmps).run P w = .ok (.tuple #[.agg cs, x]) w := by
  have hp' : tmps[p]?.getD undef = .pointer (some ⟨g, 0, none⟩) := by simpa using hp
  have hx' : tmps[q]?.getD undef = x := by simpa using hx
  simp [results, h, hp', hx', asAddr, run_loadVar_row w g t ty cs fr d hg hu hd hi]
end
def tkC (t : Tk) : List Value := [.int .i64 (t.kind : Int), .string ⟨t.text.toArray⟩, .int .u64 (t.v : Int)]
def TokP (p : Nat) (rs : List Nat) (at0 : Nat) (w : World) (e : Ending) (w' : World) : Prop :=
  match tokL (rs.drop at0) with
  | some (t, u) => ∃ a1, a1 ≤ rs.length ∧ rs.drop a1 = u ∧ e = .returned (.tuple #[.agg (tkC t).toArray, .bool true]) ∧ RD w' p rs a1 ∧ KP p w w'
  | none => ∃ (k : Int) (s : ByteArray) (x : Int), e = .returned (.tuple #[.agg #[.int .i64 k, .string s, .int .u64 x], .bool false]) ∧ KP p w w'
theorem TokP.some_mk {p : Nat} {rs : List Nat} {s : Nat} {w : World} {e : Ending} {w' : World} {t : Tk} {u : List Nat} (h : tokL (rs.drop s) = some (t, u)) {a1 : Nat} (h1 : a1 ≤ rs.length) (h2 : rs.drop a1 = u)
    (h3 : e = .returned (.tuple #[.agg (tkC t).toArray, .bool true])) (h4 : RD w' p rs a1) (h5 : KP p w w') : TokP p rs s w e w' := by
  unfold TokP; rw [h]; exact ⟨a1, h1, h2, h3, h4, h5⟩
theorem TokP.none_mk {p : Nat} {rs : List Nat} {s : Nat} {w : World} {e : Ending} {w' : World} (h : tokL (rs.drop s) = none) {k : Int} {t : ByteArray} {x : Int} (h3 : e = .returned (.tuple #[.agg #[.int .i64 k, .string t, .int .u64 x], .bool false])) (h5 : KP p w w') : TokP p rs s w e w' := by
  unfold TokP; rw [h]; exact ⟨k, t, x, h3, h5⟩
theorem set3 {w : World} {X : Nat} {a b c x y z : Value} {T : TypeId} (h : w.heap[X]? = some (.cells #[a, b, c] T (0, 0))) :
    (((w.setCell ⟨X, 0, none⟩ x).setCell ⟨X, 1, none⟩ y).setCell ⟨X, 2, none⟩ z).heap[X]? = some (.cells #[x, y, z] T (0, 0)) := by
  unfold World.setCell
  simp [h, Array.getElem?_modify]
/-- The result's block. -/
def TB (w : World) (X : Nat) : Prop := w.heap[X]? = some (.cells #[.int .i64 0, .string ⟨#[]⟩, .int .u64 0] 78 (0, 0))
theorem TB.kept {w w' : World} {X p : Nat} (h : TB w X) (hk : KP p w w') (hne : X ≠ p) : TB w' X := (hk.block X (lt_of_block h) (fun e => hne (by cases e; rfl))).trans h
theorem TB.cells {w : World} {X : Nat} (h : TB w X) : w.cell? ⟨X, 0, none⟩ = some (.int .i64 0) ∧ w.cell? ⟨X, 1, none⟩ = some (.string ⟨#[]⟩) ∧ w.cell? ⟨X, 2, none⟩ = some (.int .u64 0) ∧
    w.frozen? ⟨X, 0, none⟩ = false ∧ w.frozen? ⟨X, 1, none⟩ = false ∧ w.frozen? ⟨X, 2, none⟩ = false :=
  ⟨by rw [World.cell?, h]; rfl, by rw [World.cell?, h]; rfl, by rw [World.cell?, h]; rfl, by rw [World.frozen?, h]; rfl, by rw [World.frozen?, h]; rfl, by rw [World.frozen?, h]; rfl⟩
/-- What stands when the token's cells have been written. -/
theorem tok_end {w u : World} {X p a1 : Nat} {rs : List Nat} (ht : TB u X) (hR : RD u p rs a1) (hK : KP p w u) (hX : X = w.heap.size) (hp : p < X) (x y z : Value) :
    RD (((u.setCell ⟨X, 0, none⟩ x).setCell ⟨X, 1, none⟩ y).setCell ⟨X, 2, none⟩ z) p rs a1 ∧ KP p w (((u.setCell ⟨X, 0, none⟩ x).setCell ⟨X, 1, none⟩ y).setCell ⟨X, 2, none⟩ z) ∧
    (((u.setCell ⟨X, 0, none⟩ x).setCell ⟨X, 1, none⟩ y).setCell ⟨X, 2, none⟩ z).heap[X]? = some (.cells #[x, y, z] 78 (0, 0)) := by
  have hb : Below X u (((u.setCell ⟨X, 0, none⟩ x).setCell ⟨X, 1, none⟩ y).setCell ⟨X, 2, none⟩ z) :=
    (((Below.refl X u).setCell (p := ⟨X, 0, none⟩) (Nat.le_refl _) x).setCell (p := ⟨X, 1, none⟩) (Nat.le_refl _) y).setCell (p := ⟨X, 2, none⟩) (Nat.le_refl _) z
  exact ⟨hR.below hb hp, KP.below hK hb (by omega), set3 ht⟩
/-- The same, for a token that was laid in a block of its own first. -/
theorem TB.lies {u : World} {X : Nat} (h : TB u X) (o : Obj) : TB (u.alloc o) X := (Below.heap_alloc u o X (lt_of_block h)).trans h
theorem RD.lies {u : World} {p a1 : Nat} {rs : List Nat} (h : RD u p rs a1) (o : Obj) : RD (u.alloc o) p rs a1 := h.below ((Below.refl _ _).alloc (Nat.le_refl _) o) h.lt
theorem KP.lies {w u : World} {p : Nat} (h : KP p w u) (o : Obj) : KP p w (u.alloc o) := KP.trans' h (KP.of_below ((Below.refl _ _).alloc (Nat.le_refl _) o))
theorem tok_end_no {w u : World} {X p : Nat} (ht : TB u X) (hK : KP p w u) (hX : X = w.heap.size) (hp : p < X) (x y z : Value) :
    KP p w (((u.setCell ⟨X, 0, none⟩ x).setCell ⟨X, 1, none⟩ y).setCell ⟨X, 2, none⟩ z) ∧
    (((u.setCell ⟨X, 0, none⟩ x).setCell ⟨X, 1, none⟩ y).setCell ⟨X, 2, none⟩ z).heap[X]? = some (.cells #[x, y, z] 78 (0, 0)) := by
  have hb : Below X u (((u.setCell ⟨X, 0, none⟩ x).setCell ⟨X, 1, none⟩ y).setCell ⟨X, 2, none⟩ z) :=
    (((Below.refl X u).setCell (p := ⟨X, 0, none⟩) (Nat.le_refl _) x).setCell (p := ⟨X, 1, none⟩) (Nat.le_refl _) y).setCell (p := ⟨X, 2, none⟩) (Nat.le_refl _) z
  exact ⟨KP.below hK hb (by omega), set3 ht⟩
set_option maxRecDepth 100000 in
set_option maxHeartbeats 4000000 in
theorem token_word {w : World} {p at0 : Nat} {rs : List Nat} (h : RD w p rs at0) (h1 : at0 < rs.length) (h2 : rs.length ≤ 300) (hvr : ∀ r ∈ rs, VR r) {r : Nat} (hr : rs[at0]? = some r) (c : letterI r = true) :
    Calls Tryz.prog 29 #[.pointer (some ⟨p, 0, none⟩)] w (TokP p rs at0 w) := by
  obtain ⟨X, hX⟩ : ∃ X, X = w.heap.size := ⟨_, rfl⟩
  have hpX : p < X := by rw [hX]; exact h.lt
  have hb0 : Below w.heap.size w (w.alloc (.cells #[.int .i64 0, .string ⟨#[]⟩, .int .u64 0] 78)) := (Below.refl _ _).alloc (Nat.le_refl _) _
  have HR0 := Lib.hid (h.below hb0 h.lt)
  have HK0 := Lib.hid (KP.of_below (p := p) hb0)
  have HT0 : Hid (TB (w.alloc (.cells #[.int .i64 0, .string ⟨#[]⟩, .int .u64 0] 78)) X) := Lib.hid (by rw [hX]; exact (MapKept.heap_alloc w _).1)
  have HX := Lib.hid hX
  have HL := Lib.hid (And.intro (And.intro h1 h2) hpX)
  have HNE : Hid (X ≠ p) := Lib.hid (by omega)
  have hd : rs.drop at0 = r :: rs.drop (at0 + 1) := by
    obtain ⟨hlt, he⟩ := List.getElem?_eq_some_iff.1 hr
    rw [drop_cons hlt, he]
  have hpk : peekZ (rs.drop at0) = (r : Int) := by rw [hd]; rfl
  have HVR := Lib.hid hvr
  have HTK : Hid (tokL (rs.drop at0) = some (⟨1, ((rs.drop at0).takeWhile wordR).flatMap encL, 0⟩, (rs.drop at0).dropWhile wordR)) := Lib.hid (by
    rw [hd]
    unfold tokL
    simp only
    rw [if_pos c])
  have HPK : Hid (∀ u, RD u p rs at0 → Calls Tryz.prog 54 #[.pointer (some ⟨p, 0, none⟩), .int .i64 0] u (PeekP p rs at0 (r : Int) u)) := Lib.hid fun u hu => by
    rw [← hpk]; exact peek0 hu (by omega) (by omega)
  clear h h1 h2 hb0 hpX hr hd hpk hvr
  go_enter Tryz.func29, Tryz.ntmps29
  go_wp2_with fail
  rw [← hX]
  clear hX
  generalize w.alloc (.cells #[.int .i64 0, .string ⟨#[]⟩, .int .u64 0] 78) = W0 at HR0 HK0 HT0 ⊢
  refine (HPK.out W0 HR0.out).mono ?_
  rintro e u1 ⟨rfl, hR, hK⟩
  have HR1 := Lib.hid hR
  have HK1 := Lib.hid (KP.trans' HK0.out hK)
  have HT1 := Lib.hid (HT0.out.kept hK HNE.out)
  clear hR hK
  go_wp2_with fail
  refine (isLetter_any _ _).mono ?_
  rintro e w' ⟨rfl, rfl⟩
  go_wp2_with fail
  refine (name_any HR1.out (by have := HL.out.1; omega) HL.out.1.2).mono ?_
  rintro e u2 ⟨rfl, a1, q1, q2, hR, hK⟩
  have HQ := Lib.hid (And.intro q1 q2)
  have HR2 := Lib.hid hR
  have HK2 := Lib.hid (KP.trans' HK1.out hK)
  have HT2 := Lib.hid (HT1.out.kept hK HNE.out)
  clear hR hK q1 q2
  obtain ⟨x0, x1, x2, y0, y1, y2⟩ := HT2.out.cells
  have hXl : X < u2.heap.size := lt_of_block HT2.out
  have HE := Lib.hid (tok_end HT2.out HR2.out HK2.out HX.out HL.out.2 (.int .i64 1) (.string (bytesOf ((rs.drop at0).takeWhile wordR))) (.int .u64 0))
  go_wp2
  refine bodyPost_ret (results_cell_two (P := Tryz.prog) rfl _ _ X 78 _ (0, 0) _ (.bool true) rfl HE.out.2.2 Tryz.underlying78 rfl (by kernel_rfl) rfl) rfl ?_
  exact TokP.some_mk HTK.out HQ.out.1 HQ.out.2 rfl HE.out.1 HE.out.2.1
set_option maxRecDepth 100000 in
set_option maxHeartbeats 4000000 in
theorem token_number {w : World} {p at0 : Nat} {rs : List Nat} (h : RD w p rs at0) (h1 : at0 < rs.length) (h2 : rs.length ≤ 300) (hvr : ∀ r ∈ rs, VR r) {r : Nat} (hr : rs[at0]? = some r) (c : letterI r = false) (d : digI r = true) :
    Calls Tryz.prog 29 #[.pointer (some ⟨p, 0, none⟩)] w (TokP p rs at0 w) := by
  obtain ⟨X, hX⟩ : ∃ X, X = w.heap.size := ⟨_, rfl⟩
  have hpX : p < X := by rw [hX]; exact h.lt
  have hb0 : Below w.heap.size w (w.alloc (.cells #[.int .i64 0, .string ⟨#[]⟩, .int .u64 0] 78)) := (Below.refl _ _).alloc (Nat.le_refl _) _
  have HR0 := Lib.hid (h.below hb0 h.lt)
  have HK0 := Lib.hid (KP.of_below (p := p) hb0)
  have HT0 : Hid (TB (w.alloc (.cells #[.int .i64 0, .string ⟨#[]⟩, .int .u64 0] 78)) X) := Lib.hid (by rw [hX]; exact (MapKept.heap_alloc w _).1)
  have HX := Lib.hid hX
  have HL := Lib.hid (And.intro (And.intro h1 h2) hpX)
  have HNE : Hid (X ≠ p) := Lib.hid (by omega)
  have hd : rs.drop at0 = r :: rs.drop (at0 + 1) := by
    obtain ⟨hlt, he⟩ := List.getElem?_eq_some_iff.1 hr
    rw [drop_cons hlt, he]
  have hpk : peekZ (rs.drop at0) = (r : Int) := by rw [hd]; rfl
  have HVR := Lib.hid hvr
  have HTK : Hid (tokL (rs.drop at0) = some (⟨2, ((rs.drop at0).takeWhile wordR).flatMap encL, 0⟩, (rs.drop at0).dropWhile wordR)) := Lib.hid (by
    rw [hd]
    unfold tokL
    simp only
    rw [if_neg (by rw [c]; decide), if_pos d])
  have HPK : Hid (∀ u, RD u p rs at0 → Calls Tryz.prog 54 #[.pointer (some ⟨p, 0, none⟩), .int .i64 0] u (PeekP p rs at0 (r : Int) u)) := Lib.hid fun u hu => by
    rw [← hpk]; exact peek0 hu (by omega) (by omega)
  clear h h1 h2 hb0 hpX hr hd hpk hvr
  go_enter Tryz.func29, Tryz.ntmps29
  go_wp2_with fail
  rw [← hX]
  clear hX
  generalize w.alloc (.cells #[.int .i64 0, .string ⟨#[]⟩, .int .u64 0] 78) = W0 at HR0 HK0 HT0 ⊢
  refine (HPK.out W0 HR0.out).mono ?_
  rintro e u1 ⟨rfl, hR, hK⟩
  have HR1 := Lib.hid hR
  have HK1 := Lib.hid (KP.trans' HK0.out hK)
  have HT1 := Lib.hid (HT0.out.kept hK HNE.out)
  clear hR hK
  go_wp2_with fail
  refine (isLetter_any _ _).mono ?_
  rintro e w' ⟨rfl, rfl⟩
  go_wp2_with fail
  refine (isDigit_any _ _).mono ?_
  rintro e w' ⟨rfl, rfl⟩
  go_wp2_with fail
  refine (name_any HR1.out (by have := HL.out.1; omega) HL.out.1.2).mono ?_
  rintro e u2 ⟨rfl, a1, q1, q2, hR, hK⟩
  have HQ := Lib.hid (And.intro q1 q2)
  have HR2 := Lib.hid hR
  have HK2 := Lib.hid (KP.trans' HK1.out hK)
  have HT2 := Lib.hid (HT1.out.kept hK HNE.out)
  clear hR hK q1 q2
  obtain ⟨x0, x1, x2, y0, y1, y2⟩ := HT2.out.cells
  have hXl : X < u2.heap.size := lt_of_block HT2.out
  have HE := Lib.hid (tok_end HT2.out HR2.out HK2.out HX.out HL.out.2 (.int .i64 2) (.string (bytesOf ((rs.drop at0).takeWhile wordR))) (.int .u64 0))
  go_wp2
  refine bodyPost_ret (results_cell_two (P := Tryz.prog) rfl _ _ X 78 _ (0, 0) _ (.bool true) rfl HE.out.2.2 Tryz.underlying78 rfl (by kernel_rfl) rfl) rfl ?_
  exact TokP.some_mk HTK.out HQ.out.1 HQ.out.2 rfl HE.out.1 HE.out.2.1
set_option maxRecDepth 100000 in
set_option maxHeartbeats 4000000 in
theorem token_text {w : World} {p at0 : Nat} {rs : List Nat} (h : RD w p rs at0) (h1 : at0 < rs.length) (h2 : rs.length ≤ 300) (hvr : ∀ r ∈ rs, VR r) {r : Nat} (hr : rs[at0]? = some r) (c : letterI r = false) (d : digI r = false) (eq : r = 34) {vs : List Nat} {u : List Nat} (f : textL (rs.drop (at0 + 1)) = some (vs, u)) :
    Calls Tryz.prog 29 #[.pointer (some ⟨p, 0, none⟩)] w (TokP p rs at0 w) := by
  obtain ⟨X, hX⟩ : ∃ X, X = w.heap.size := ⟨_, rfl⟩
  have hpX : p < X := by rw [hX]; exact h.lt
  have hb0 : Below w.heap.size w (w.alloc (.cells #[.int .i64 0, .string ⟨#[]⟩, .int .u64 0] 78)) := (Below.refl _ _).alloc (Nat.le_refl _) _
  have HR0 := Lib.hid (h.below hb0 h.lt)
  have HK0 := Lib.hid (KP.of_below (p := p) hb0)
  have HT0 : Hid (TB (w.alloc (.cells #[.int .i64 0, .string ⟨#[]⟩, .int .u64 0] 78)) X) := Lib.hid (by rw [hX]; exact (MapKept.heap_alloc w _).1)
  have HX := Lib.hid hX
  have HL := Lib.hid (And.intro (And.intro h1 h2) hpX)
  have HNE : Hid (X ≠ p) := Lib.hid (by omega)
  have hd : rs.drop at0 = r :: rs.drop (at0 + 1) := by
    obtain ⟨hlt, he⟩ := List.getElem?_eq_some_iff.1 hr
    rw [drop_cons hlt, he]
  have hpk : peekZ (rs.drop at0) = (r : Int) := by rw [hd]; rfl
  have HVR := Lib.hid hvr
  have HTK : Hid (tokL (rs.drop at0) = some (⟨3, vs.flatMap encL, 0⟩, u)) := Lib.hid (by
    rw [hd]
    unfold tokL
    simp only
    rw [if_neg (by rw [c]; decide), if_neg (by rw [d]; decide), if_pos eq, f])
  have HF := Lib.hid f
  have hlt0 := h1
  clear f
  have HPK : Hid (∀ u, RD u p rs at0 → Calls Tryz.prog 54 #[.pointer (some ⟨p, 0, none⟩), .int .i64 0] u (PeekP p rs at0 (r : Int) u)) := Lib.hid fun u hu => by
    rw [← hpk]; exact peek0 hu (by omega) (by omega)
  subst eq
  clear h h1 h2 hb0 hpX hr hd hpk hvr
  go_enter Tryz.func29, Tryz.ntmps29
  go_wp2_with fail
  rw [← hX]
  clear hX
  generalize w.alloc (.cells #[.int .i64 0, .string ⟨#[]⟩, .int .u64 0] 78) = W0 at HR0 HK0 HT0 ⊢
  refine (HPK.out W0 HR0.out).mono ?_
  rintro e u1 ⟨rfl, hR, hK⟩
  have HR1 := Lib.hid hR
  have HK1 := Lib.hid (KP.trans' HK0.out hK)
  have HT1 := Lib.hid (HT0.out.kept hK HNE.out)
  clear hR hK
  go_wp2_with fail
  refine (isLetter_any _ _).mono ?_
  rintro e w' ⟨rfl, rfl⟩
  go_wp2_with fail
  refine (isDigit_any _ _).mono ?_
  rintro e w' ⟨rfl, rfl⟩
  go_wp2_with fail
  refine (text_any HR1.out HL.out.1.1 HL.out.1.2 HVR.out).mono ?_
  intro e u2 hO
  unfold TextP at hO
  rw [HF.out] at hO
  obtain ⟨a1, q1, q2, rfl, hR, hK⟩ := hO
  have HQ := Lib.hid (And.intro q1 q2)
  have HR2 := Lib.hid hR
  have HK2 := Lib.hid (KP.trans' HK1.out hK)
  have HT2 := Lib.hid (HT1.out.kept hK HNE.out)
  clear hR hK q1 q2
  obtain ⟨x0, x1, x2, y0, y1, y2⟩ := HT2.out.cells
  have hXl : X < u2.heap.size := lt_of_block HT2.out
  have HE := Lib.hid (tok_end HT2.out HR2.out HK2.out HX.out HL.out.2 (.int .i64 3) (.string (bytesOf vs)) (.int .u64 0))
  go_wp2
  refine bodyPost_ret (results_cell_two (P := Tryz.prog) rfl _ _ X 78 _ (0, 0) _ (.bool true) rfl HE.out.2.2 Tryz.underlying78 rfl (by kernel_rfl) rfl) rfl ?_
  exact TokP.some_mk HTK.out HQ.out.1 HQ.out.2 rfl HE.out.1 HE.out.2.1
set_option maxRecDepth 100000 in
set_option maxHeartbeats 4000000 in
theorem token_text_no {w : World} {p at0 : Nat} {rs : List Nat} (h : RD w p rs at0) (h1 : at0 < rs.length) (h2 : rs.length ≤ 300) (hvr : ∀ r ∈ rs, VR r) {r : Nat} (hr : rs[at0]? = some r) (c : letterI r = false) (d : digI r = false) (eq : r = 34) (f : textL (rs.drop (at0 + 1)) = none) :
    Calls Tryz.prog 29 #[.pointer (some ⟨p, 0, none⟩)] w (TokP p rs at0 w) := by
  obtain ⟨X, hX⟩ : ∃ X, X = w.heap.size := ⟨_, rfl⟩
  have hpX : p < X := by rw [hX]; exact h.lt
  have hb0 : Below w.heap.size w (w.alloc (.cells #[.int .i64 0, .string ⟨#[]⟩, .int .u64 0] 78)) := (Below.refl _ _).alloc (Nat.le_refl _) _
  have HR0 := Lib.hid (h.below hb0 h.lt)
  have HK0 := Lib.hid (KP.of_below (p := p) hb0)
  have HT0 : Hid (TB (w.alloc (.cells #[.int .i64 0, .string ⟨#[]⟩, .int .u64 0] 78)) X) := Lib.hid (by rw [hX]; exact (MapKept.heap_alloc w _).1)
  have HX := Lib.hid hX
  have HL := Lib.hid (And.intro (And.intro h1 h2) hpX)
  have HNE : Hid (X ≠ p) := Lib.hid (by omega)
  have hd : rs.drop at0 = r :: rs.drop (at0 + 1) := by
    obtain ⟨hlt, he⟩ := List.getElem?_eq_some_iff.1 hr
    rw [drop_cons hlt, he]
  have hpk : peekZ (rs.drop at0) = (r : Int) := by rw [hd]; rfl
  have HVR := Lib.hid hvr
  have HTK : Hid (tokL (rs.drop at0) = none) := Lib.hid (by
    rw [hd]
    unfold tokL
    simp only
    rw [if_neg (by rw [c]; decide), if_neg (by rw [d]; decide), if_pos eq, f])
  have HF := Lib.hid f
  clear f
  have HPK : Hid (∀ u, RD u p rs at0 → Calls Tryz.prog 54 #[.pointer (some ⟨p, 0, none⟩), .int .i64 0] u (PeekP p rs at0 (r : Int) u)) := Lib.hid fun u hu => by
    rw [← hpk]; exact peek0 hu (by omega) (by omega)
  subst eq
  clear h h1 h2 hb0 hpX hr hd hpk hvr
  go_enter Tryz.func29, Tryz.ntmps29
  go_wp2_with fail
  rw [← hX]
  clear hX
  generalize w.alloc (.cells #[.int .i64 0, .string ⟨#[]⟩, .int .u64 0] 78) = W0 at HR0 HK0 HT0 ⊢
  refine (HPK.out W0 HR0.out).mono ?_
  rintro e u1 ⟨rfl, hR, hK⟩
  have HR1 := Lib.hid hR
  have HK1 := Lib.hid (KP.trans' HK0.out hK)
  have HT1 := Lib.hid (HT0.out.kept hK HNE.out)
  clear hR hK
  go_wp2_with fail
  refine (isLetter_any _ _).mono ?_
  rintro e w' ⟨rfl, rfl⟩
  go_wp2_with fail
  refine (isDigit_any _ _).mono ?_
  rintro e w' ⟨rfl, rfl⟩
  go_wp2_with fail
  refine (text_any HR1.out HL.out.1.1 HL.out.1.2 HVR.out).mono ?_
  intro e u2 hO
  unfold TextP at hO
  rw [HF.out] at hO
  obtain ⟨rfl, hK⟩ := hO
  have HK2 := Lib.hid (KP.trans' HK1.out hK)
  have HT2 := Lib.hid (HT1.out.kept hK HNE.out)
  clear hK
  obtain ⟨x0, x1, x2, y0, y1, y2⟩ := HT2.out.cells
  have hXl : X < u2.heap.size := lt_of_block HT2.out
  have HE := Lib.hid (tok_end_no HT2.out HK2.out HX.out HL.out.2 (.int .i64 3) (.string ⟨#[]⟩) (.int .u64 0))
  go_wp2
  refine bodyPost_ret (results_cell_two (P := Tryz.prog) rfl _ _ X 78 _ (0, 0) _ (.bool false) rfl HE.out.2 Tryz.underlying78 rfl (by kernel_rfl) rfl) rfl ?_
  exact TokP.none_mk HTK.out rfl HE.out.1
set_option maxRecDepth 100000 in
set_option maxHeartbeats 4000000 in
theorem token_character {w : World} {p at0 : Nat} {rs : List Nat} (h : RD w p rs at0) (h1 : at0 < rs.length) (h2 : rs.length ≤ 300) (hvr : ∀ r ∈ rs, VR r) {r : Nat} (hr : rs[at0]? = some r) (c : letterI r = false) (d : digI r = false) (eq : r = 39) {vs : Nat} {u : List Nat} (f : charL (rs.drop (at0 + 1)) = some (vs, u)) (fv : vs ≤ 1114111) :
    Calls Tryz.prog 29 #[.pointer (some ⟨p, 0, none⟩)] w (TokP p rs at0 w) := by
  obtain ⟨X, hX⟩ : ∃ X, X = w.heap.size := ⟨_, rfl⟩
  have hpX : p < X := by rw [hX]; exact h.lt
  have hb0 : Below w.heap.size w (w.alloc (.cells #[.int .i64 0, .string ⟨#[]⟩, .int .u64 0] 78)) := (Below.refl _ _).alloc (Nat.le_refl _) _
  have HR0 := Lib.hid (h.below hb0 h.lt)
  have HK0 := Lib.hid (KP.of_below (p := p) hb0)
  have HT0 : Hid (TB (w.alloc (.cells #[.int .i64 0, .string ⟨#[]⟩, .int .u64 0] 78)) X) := Lib.hid (by rw [hX]; exact (MapKept.heap_alloc w _).1)
  have HX := Lib.hid hX
  have HL := Lib.hid (And.intro (And.intro h1 h2) hpX)
  have HNE : Hid (X ≠ p) := Lib.hid (by omega)
  have hd : rs.drop at0 = r :: rs.drop (at0 + 1) := by
    obtain ⟨hlt, he⟩ := List.getElem?_eq_some_iff.1 hr
    rw [drop_cons hlt, he]
  have hpk : peekZ (rs.drop at0) = (r : Int) := by rw [hd]; rfl
  have HVR := Lib.hid hvr
  have HTK : Hid (tokL (rs.drop at0) = some (⟨5, [], vs⟩, u)) := Lib.hid (by
    rw [hd]
    unfold tokL
    simp only
    rw [if_neg (by rw [c]; decide), if_neg (by rw [d]; decide), if_neg (by rw [eq]; decide), if_pos eq, f])
  have HF := Lib.hid f
  have hlt0 := h1
  clear f
  have HPK : Hid (∀ u, RD u p rs at0 → Calls Tryz.prog 54 #[.pointer (some ⟨p, 0, none⟩), .int .i64 0] u (PeekP p rs at0 (r : Int) u)) := Lib.hid fun u hu => by
    rw [← hpk]; exact peek0 hu (by omega) (by omega)
  subst eq
  clear h h1 h2 hb0 hpX hr hd hpk hvr
  go_enter Tryz.func29, Tryz.ntmps29
  go_wp2_with fail
  rw [← hX]
  clear hX
  generalize w.alloc (.cells #[.int .i64 0, .string ⟨#[]⟩, .int .u64 0] 78) = W0 at HR0 HK0 HT0 ⊢
  refine (HPK.out W0 HR0.out).mono ?_
  rintro e u1 ⟨rfl, hR, hK⟩
  have HR1 := Lib.hid hR
  have HK1 := Lib.hid (KP.trans' HK0.out hK)
  have HT1 := Lib.hid (HT0.out.kept hK HNE.out)
  clear hR hK
  go_wp2_with fail
  refine (isLetter_any _ _).mono ?_
  rintro e w' ⟨rfl, rfl⟩
  go_wp2_with fail
  refine (isDigit_any _ _).mono ?_
  rintro e w' ⟨rfl, rfl⟩
  go_wp2_with fail
  refine (character_any HR1.out HL.out.1.1 HL.out.1.2 HVR.out).mono ?_
  intro e u2 hO
  unfold CharP at hO
  rw [HF.out] at hO
  obtain ⟨a1, q1, q2, rfl, hR, hK⟩ := hO
  have HQ := Lib.hid (And.intro q1 q2)
  have HR2 := Lib.hid hR
  have HK2 := Lib.hid (KP.trans' HK1.out hK)
  have HT2 := Lib.hid (HT1.out.kept hK HNE.out)
  clear hR hK q1 q2
  have hw64 : IntKind.u64.wrap (vs : Int) = vs := by rw [IntKind.wrap_u64]; omega
  obtain ⟨x0, x1, x2, y0, y1, y2⟩ := HT2.out.cells
  have hXl : X < u2.heap.size := lt_of_block HT2.out
  have HE := Lib.hid (tok_end HT2.out HR2.out HK2.out HX.out HL.out.2 (.int .i64 5) (.string ⟨#[]⟩) (.int .u64 (vs : Int)))
  go_wp2
  refine bodyPost_ret (results_cell_two (P := Tryz.prog) rfl _ _ X 78 _ (0, 0) _ (.bool true) rfl HE.out.2.2 Tryz.underlying78 rfl (by kernel_rfl) rfl) rfl ?_
  exact TokP.some_mk HTK.out HQ.out.1 HQ.out.2 rfl HE.out.1 HE.out.2.1
set_option maxRecDepth 100000 in
set_option maxHeartbeats 4000000 in
theorem token_character_no {w : World} {p at0 : Nat} {rs : List Nat} (h : RD w p rs at0) (h1 : at0 < rs.length) (h2 : rs.length ≤ 300) (hvr : ∀ r ∈ rs, VR r) {r : Nat} (hr : rs[at0]? = some r) (c : letterI r = false) (d : digI r = false) (eq : r = 39) (f : charL (rs.drop (at0 + 1)) = none) :
    Calls Tryz.prog 29 #[.pointer (some ⟨p, 0, none⟩)] w (TokP p rs at0 w) := by
  obtain ⟨X, hX⟩ : ∃ X, X = w.heap.size := ⟨_, rfl⟩
  have hpX : p < X := by rw [hX]; exact h.lt
  have hb0 : Below w.heap.size w (w.alloc (.cells #[.int .i64 0, .string ⟨#[]⟩, .int .u64 0] 78)) := (Below.refl _ _).alloc (Nat.le_refl _) _
  have HR0 := Lib.hid (h.below hb0 h.lt)
  have HK0 := Lib.hid (KP.of_below (p := p) hb0)
  have HT0 : Hid (TB (w.alloc (.cells #[.int .i64 0, .string ⟨#[]⟩, .int .u64 0] 78)) X) := Lib.hid (by rw [hX]; exact (MapKept.heap_alloc w _).1)
  have HX := Lib.hid hX
  have HL := Lib.hid (And.intro (And.intro h1 h2) hpX)
  have HNE : Hid (X ≠ p) := Lib.hid (by omega)
  have hd : rs.drop at0 = r :: rs.drop (at0 + 1) := by
    obtain ⟨hlt, he⟩ := List.getElem?_eq_some_iff.1 hr
    rw [drop_cons hlt, he]
  have hpk : peekZ (rs.drop at0) = (r : Int) := by rw [hd]; rfl
  have HVR := Lib.hid hvr
  have HTK : Hid (tokL (rs.drop at0) = none) := Lib.hid (by
    rw [hd]
    unfold tokL
    simp only
    rw [if_neg (by rw [c]; decide), if_neg (by rw [d]; decide), if_neg (by rw [eq]; decide), if_pos eq, f])
  have HF := Lib.hid f
  clear f
  have HPK : Hid (∀ u, RD u p rs at0 → Calls Tryz.prog 54 #[.pointer (some ⟨p, 0, none⟩), .int .i64 0] u (PeekP p rs at0 (r : Int) u)) := Lib.hid fun u hu => by
    rw [← hpk]; exact peek0 hu (by omega) (by omega)
  subst eq
  clear h h1 h2 hb0 hpX hr hd hpk hvr
  go_enter Tryz.func29, Tryz.ntmps29
  go_wp2_with fail
  rw [← hX]
  clear hX
  generalize w.alloc (.cells #[.int .i64 0, .string ⟨#[]⟩, .int .u64 0] 78) = W0 at HR0 HK0 HT0 ⊢
  refine (HPK.out W0 HR0.out).mono ?_
  rintro e u1 ⟨rfl, hR, hK⟩
  have HR1 := Lib.hid hR
  have HK1 := Lib.hid (KP.trans' HK0.out hK)
  have HT1 := Lib.hid (HT0.out.kept hK HNE.out)
  clear hR hK
  go_wp2_with fail
  refine (isLetter_any _ _).mono ?_
  rintro e w' ⟨rfl, rfl⟩
  go_wp2_with fail
  refine (isDigit_any _ _).mono ?_
  rintro e w' ⟨rfl, rfl⟩
  go_wp2_with fail
  refine (character_any HR1.out HL.out.1.1 HL.out.1.2 HVR.out).mono ?_
  intro e u2 hO
  unfold CharP at hO
  rw [HF.out] at hO
  obtain ⟨rfl, hK⟩ := hO
  have HK2 := Lib.hid (KP.trans' HK1.out hK)
  have HT2 := Lib.hid (HT1.out.kept hK HNE.out)
  clear hK
  obtain ⟨x0, x1, x2, y0, y1, y2⟩ := HT2.out.cells
  have hXl : X < u2.heap.size := lt_of_block HT2.out
  have HE := Lib.hid (tok_end_no HT2.out HK2.out HX.out HL.out.2 (.int .i64 5) (.string ⟨#[]⟩) (.int .u64 0))
  go_wp2
  refine bodyPost_ret (results_cell_two (P := Tryz.prog) rfl _ _ X 78 _ (0, 0) _ (.bool false) rfl HE.out.2 Tryz.underlying78 rfl (by kernel_rfl) rfl) rfl ?_
  exact TokP.none_mk HTK.out rfl HE.out.1
set_option maxRecDepth 100000 in
set_option maxHeartbeats 4000000 in
theorem token_sign {w : World} {p at0 : Nat} {rs : List Nat} (h : RD w p rs at0) (h1 : at0 < rs.length) (h2 : rs.length ≤ 300) (hvr : ∀ r ∈ rs, VR r) {r : Nat} (hr : rs[at0]? = some r) (c : letterI r = false) (d : digI r = false) (e34 : ¬ r = 34) (e39 : ¬ r = 39) (f : signR r = true) :
    Calls Tryz.prog 29 #[.pointer (some ⟨p, 0, none⟩)] w (TokP p rs at0 w) := by
  obtain ⟨X, hX⟩ : ∃ X, X = w.heap.size := ⟨_, rfl⟩
  have hpX : p < X := by rw [hX]; exact h.lt
  have hb0 : Below w.heap.size w (w.alloc (.cells #[.int .i64 0, .string ⟨#[]⟩, .int .u64 0] 78)) := (Below.refl _ _).alloc (Nat.le_refl _) _
  have HR0 := Lib.hid (h.below hb0 h.lt)
  have HK0 := Lib.hid (KP.of_below (p := p) hb0)
  have HT0 : Hid (TB (w.alloc (.cells #[.int .i64 0, .string ⟨#[]⟩, .int .u64 0] 78)) X) := Lib.hid (by rw [hX]; exact (MapKept.heap_alloc w _).1)
  have HX := Lib.hid hX
  have HL := Lib.hid (And.intro (And.intro h1 h2) hpX)
  have HNE : Hid (X ≠ p) := Lib.hid (by omega)
  have hd : rs.drop at0 = r :: rs.drop (at0 + 1) := by
    obtain ⟨hlt, he⟩ := List.getElem?_eq_some_iff.1 hr
    rw [drop_cons hlt, he]
  have hpk : peekZ (rs.drop at0) = (r : Int) := by rw [hd]; rfl
  have HVR := Lib.hid hvr
  have HTK : Hid (tokL (rs.drop at0) = some (⟨4, encL r, 0⟩, rs.drop (at0 + 1))) := Lib.hid (by
    rw [hd]
    unfold tokL
    simp only
    rw [if_neg (by rw [c]; decide), if_neg (by rw [d]; decide), if_neg e34, if_neg e39, if_pos f])
  have hvr1 := hvr r (List.mem_of_getElem? hr)
  have HENC : Hid (Utf8.encode (r : Int) = ⟨(encL r).toArray⟩) := Lib.hid (by
    have := encode_encL hvr1
    rw [← this])
  have HR := Lib.hid (show r ≤ 1114111 by unfold VR at hvr1; omega)
  have hn34 : ((r : Int) == 34) = false := by rw [beq_eq_false_iff_ne]; omega
  have hn39 : ((r : Int) == 39) = false := by rw [beq_eq_false_iff_ne]; omega
  clear e34 e39 hvr1
  have HPK : Hid (∀ u, RD u p rs at0 → Calls Tryz.prog 54 #[.pointer (some ⟨p, 0, none⟩), .int .i64 0] u (PeekP p rs at0 (r : Int) u)) := Lib.hid fun u hu => by
    rw [← hpk]; exact peek0 hu (by omega) (by omega)
  clear h h1 h2 hb0 hpX hr hd hpk hvr
  go_enter Tryz.func29, Tryz.ntmps29
  go_wp2_with fail
  rw [← hX]
  clear hX
  generalize w.alloc (.cells #[.int .i64 0, .string ⟨#[]⟩, .int .u64 0] 78) = W0 at HR0 HK0 HT0 ⊢
  refine (HPK.out W0 HR0.out).mono ?_
  rintro e u1 ⟨rfl, hR, hK⟩
  have HR1 := Lib.hid hR
  have HK1 := Lib.hid (KP.trans' HK0.out hK)
  have HT1 := Lib.hid (HT0.out.kept hK HNE.out)
  clear hR hK
  go_wp2_with fail
  refine (isLetter_any _ _).mono ?_
  rintro e w' ⟨rfl, rfl⟩
  go_wp2_with fail
  refine (isDigit_any _ _).mono ?_
  rintro e w' ⟨rfl, rfl⟩
  go_wp2_with fail
  refine (isSign_any _ HR.out _).mono ?_
  rintro e w' ⟨rfl, rfl⟩
  obtain ⟨m, hm⟩ : ∃ m, m = at0 + 1 := ⟨_, rfl⟩
  have hw : IntKind.i64.wrap ((at0 : Int) + 1) = (m : Int) := by rw [wrap_at at0 (by have := HL.out; omega), hm]
  have hw32 : IntKind.i32.wrap (r : Int) = r := by have := HR.out; rw [IntKind.wrap_i32]; omega
  have HM := Lib.hid hm
  obtain ⟨aa, cc, c0, c1, f1⟩ := HR1.out.cells
  have HR2 := Lib.hid (HR1.out.step m)
  have HK2 := Lib.hid (KP.trans' HK1.out (KP.step p u1 1 (.int .i64 (m : Int))))
  have HT2 := Lib.hid (HT1.out.kept (KP.step p u1 1 (.int .i64 (m : Int))) HNE.out)
  have hs := HENC.out
  have hXp : X ≠ p := HNE.out
  clear hm
  obtain ⟨x0, x1, x2, y0, y1, y2⟩ := HT1.out.cells
  have hXl : X < u1.heap.size := lt_of_block HT1.out
  have HE := Lib.hid (tok_end HT2.out HR2.out HK2.out HX.out HL.out.2 (.int .i64 4) (.string ⟨(encL r).toArray⟩) (.int .u64 0))
  go_wp2
  refine bodyPost_ret (results_cell_two (P := Tryz.prog) rfl _ _ X 78 _ (0, 0) _ (.bool true) rfl HE.out.2.2 Tryz.underlying78 rfl (by kernel_rfl) rfl) rfl ?_
  exact TokP.some_mk HTK.out (a1 := m) (by have := HM.out; have := HL.out; omega) (by rw [HM.out]) rfl HE.out.1 HE.out.2.1
set_option maxRecDepth 100000 in
set_option maxHeartbeats 4000000 in
theorem token_none {w : World} {p at0 : Nat} {rs : List Nat} (h : RD w p rs at0) (h1 : at0 < rs.length) (h2 : rs.length ≤ 300) (hvr : ∀ r ∈ rs, VR r) {r : Nat} (hr : rs[at0]? = some r) (c : letterI r = false) (d : digI r = false) (e34 : ¬ r = 34) (e39 : ¬ r = 39) (f : signR r = false) :
    Calls Tryz.prog 29 #[.pointer (some ⟨p, 0, none⟩)] w (TokP p rs at0 w) := by
  obtain ⟨X, hX⟩ : ∃ X, X = w.heap.size := ⟨_, rfl⟩
  have hpX : p < X := by rw [hX]; exact h.lt
  have hb0 : Below w.heap.size w (w.alloc (.cells #[.int .i64 0, .string ⟨#[]⟩, .int .u64 0] 78)) := (Below.refl _ _).alloc (Nat.le_refl _) _
  have HR0 := Lib.hid (h.below hb0 h.lt)
  have HK0 := Lib.hid (KP.of_below (p := p) hb0)
  have HT0 : Hid (TB (w.alloc (.cells #[.int .i64 0, .string ⟨#[]⟩, .int .u64 0] 78)) X) := Lib.hid (by rw [hX]; exact (MapKept.heap_alloc w _).1)
  have HX := Lib.hid hX
  have HL := Lib.hid (And.intro (And.intro h1 h2) hpX)
  have HNE : Hid (X ≠ p) := Lib.hid (by omega)
  have hd : rs.drop at0 = r :: rs.drop (at0 + 1) := by
    obtain ⟨hlt, he⟩ := List.getElem?_eq_some_iff.1 hr
    rw [drop_cons hlt, he]
  have hpk : peekZ (rs.drop at0) = (r : Int) := by rw [hd]; rfl
  have HVR := Lib.hid hvr
  have HTK : Hid (tokL (rs.drop at0) = none) := Lib.hid (by
    rw [hd]
    unfold tokL
    simp only
    rw [if_neg (by rw [c]; decide), if_neg (by rw [d]; decide), if_neg e34, if_neg e39, if_neg (by rw [f]; decide)])
  have hvr1 := hvr r (List.mem_of_getElem? hr)
  have HENC : Hid (Utf8.encode (r : Int) = ⟨(encL r).toArray⟩) := Lib.hid (by
    have := encode_encL hvr1
    rw [← this])
  have HR := Lib.hid (show r ≤ 1114111 by unfold VR at hvr1; omega)
  have hn34 : ((r : Int) == 34) = false := by rw [beq_eq_false_iff_ne]; omega
  have hn39 : ((r : Int) == 39) = false := by rw [beq_eq_false_iff_ne]; omega
  clear e34 e39 hvr1
  have HPK : Hid (∀ u, RD u p rs at0 → Calls Tryz.prog 54 #[.pointer (some ⟨p, 0, none⟩), .int .i64 0] u (PeekP p rs at0 (r : Int) u)) := Lib.hid fun u hu => by
    rw [← hpk]; exact peek0 hu (by omega) (by omega)
  clear h h1 h2 hb0 hpX hr hd hpk hvr
  go_enter Tryz.func29, Tryz.ntmps29
  go_wp2_with fail
  rw [← hX]
  clear hX
  generalize w.alloc (.cells #[.int .i64 0, .string ⟨#[]⟩, .int .u64 0] 78) = W0 at HR0 HK0 HT0 ⊢
  refine (HPK.out W0 HR0.out).mono ?_
  rintro e u1 ⟨rfl, hR, hK⟩
  have HR1 := Lib.hid hR
  have HK1 := Lib.hid (KP.trans' HK0.out hK)
  have HT1 := Lib.hid (HT0.out.kept hK HNE.out)
  clear hR hK
  go_wp2_with fail
  refine (isLetter_any _ _).mono ?_
  rintro e w' ⟨rfl, rfl⟩
  go_wp2_with fail
  refine (isDigit_any _ _).mono ?_
  rintro e w' ⟨rfl, rfl⟩
  go_wp2_with fail
  refine (isSign_any _ HR.out _).mono ?_
  rintro e w' ⟨rfl, rfl⟩
  have HT2 := HT1
  have HK2 := HK1
  obtain ⟨x0, x1, x2, y0, y1, y2⟩ := HT2.out.cells
  have hXl : X < u1.heap.size := lt_of_block HT2.out
  have HE := Lib.hid (tok_end_no HT2.out HK2.out HX.out HL.out.2 (.int .i64 0) (.string ⟨#[]⟩) (.int .u64 0))
  go_wp2
  refine bodyPost_ret (results_cell_two (P := Tryz.prog) rfl _ _ X 78 _ (0, 0) _ (.bool false) rfl HE.out.2 Tryz.underlying78 rfl (by kernel_rfl) rfl) rfl ?_
  exact TokP.none_mk HTK.out rfl HE.out.1
end Go.Proofs.YthejefldnpeciaaGreatDoor
