/- lex: isSign, name, WriteRune. -/
import Derived.Test.YtngoipcjipbelaaDoorLE
namespace Go.Proofs.YtngoipcjipbelaaDoor
set_option linter.unusedVariables false
set_option linter.unusedSimpArgs false
open Go.ChangeShapes Go.WideShapes Go.Deep Go.RowKit

def signL : List UInt8 := [44, 91, 93, 35, 58, 61, 43, 45]
theorem sign_look : ∀ r : Fin 128, decide (0 ≤ Lib.indexByte signL (((r.val : Nat) : Int).toNat.toUInt8)) = signR r.val := by decide +kernel
set_option maxHeartbeats 1000000 in
theorem isSign_any (r : Nat) (hr : r ≤ 1114111) (w : World) : Calls Tryd.prog 65 #[.int .i64 (r : Int)] w (Ret (.bool (signR r)) w) := by
  by_cases c : r < 128
  · have hc : (r : Int) < 128 := by omega
    have hw : IntKind.u8.wrap (r : Int) = r := by rw [IntKind.wrap_u8]; omega
    have h := sign_look ⟨r, c⟩
    simp only at h
    obtain ⟨i, hi⟩ : ∃ i, i = Lib.indexByte signL ((r : Int).toNat.toUInt8) := ⟨_, rfl⟩
    have hI : Calls Tryd.prog 91 #[.string ⟨#[44, 91, 93, 35, 58, 61, 43, 45]⟩, .int .u8 (r : Int)] w fun e w' => e = .returned (.int .i64 i) ∧ w' = w := by
      rw [hi]; exact Tryd.strings_IndexByte ⟨#[44, 91, 93, 35, 58, 61, 43, 45]⟩ (r : Int) w
    rw [← hi] at h
    have HH := Lib.hid h
    have HI := Lib.hid hI
    clear h hi hI c hr
    go_enter Tryd.func65, Tryd.ntmps65
    go_wp2_with fail
    refine HI.out.mono ?_
    rintro e w' ⟨rfl, rfl⟩
    go_wp2
    go_ret
    exact ret_bool (by rw [← HH.out])
  · have hc : ¬ (r : Int) < 128 := by omega
    have HH : Hid (signR r = false) := Lib.hid (by
      unfold signR
      simp only [Bool.or_eq_false_iff, beq_eq_false_iff_ne, ne_eq]
      omega)
    clear c hr
    go_enter Tryd.func65, Tryd.ntmps65
    go_wp2
    go_ret
    exact ret_bool HH.out.symm
-- the builder beside the reader
theorem wr_kp {B b p : Nat} {bs : List Value} {w w' : World} (h : Wr B b bs w) (hk : KP p w w') (hp : p < B) : Wr B b bs w' := by
  have key : ∀ q, WrAt B b q bs w → WrAt B b q bs w' := by
    rintro q ⟨hB, v, hb, hown, hne⟩
    refine ⟨hB, v, ?_, hown.kept hk ?_, hne⟩
    · exact (hk.block b (lt_of_block hb) (by simp; omega)).trans hb
    · cases hv : v.ownBlock with
      | none => exact .inl rfl
      | some g =>
        right
        have := (hown.lt g hv).1
        simp; omega
  exact h.elim (fun x => .inl (key _ x)) (fun x => .inr (key _ x))
theorem KP.below {p B : Nat} {w u u' : World} (h : KP p w u) (hb : Below B u u') (hB : w.heap.size ≤ B) : KP p w u' :=
  ⟨hb.os.trans h.os, hb.tape.trans h.tape, hb.output.trans h.output, Nat.le_trans h.size hb.size, fun k hk hn => (hb.block k (by omega)).trans (h.block k hk hn)⟩
theorem byteCells_enc_ascii {r : Nat} (h : r < 128) : Lib.byteCells (encL r) = [.int .u8 (r : Int)] := by
  rw [encL_ascii h]
  unfold Lib.byteCells
  simp only [List.map_cons, List.map_nil]
  rw [toN (by omega)]
theorem byteCells_enc {r : Nat} (h : VR r) : Lib.byteCells (encL r) = Lib.runeCells (r : Int) := by
  rw [← Lib.byteCells_encodeRune]
  congr 1
  unfold Lib.encodeRune
  rcases encL_cases h with ⟨a, e⟩ | ⟨a, b, e⟩ | ⟨a, b, e⟩ | ⟨a, b, e⟩ <;> rw [e]
  · rw [Lib.encodeRuneZ_one (by omega) (by omega)]; rfl
  · rw [Lib.encodeRuneZ_two (by omega) (by omega)]
    simp only [List.map_cons, List.map_nil]
    congr 1
  · rw [Lib.encodeRuneZ_three (by unfold VR at h; omega)]; rfl
  · rw [Lib.encodeRuneZ_four (by omega) (by omega)]; rfl
set_option maxRecDepth 100000 in
set_option maxHeartbeats 2000000 in
theorem writeRune_any (B b : Nat) (bs : List Value) (r : Int) (hr0 : -2147483648 ≤ r) (hr1 : r ≤ 2147483647) (w : World) (h : Wr B b bs w) (hlen : bs.length + 4 ≤ 1000000) (hBw : B ≤ w.heap.size) :
    Calls Tryd.prog 90 #[.pointer (some ⟨b, 0, none⟩), .int .i32 r] w fun e w' => (∃ n : Int, e = .returned (.tuple #[.int .i64 n, .nilIface])) ∧ WrAt B b (.pointer (some ⟨b, 0, none⟩)) (bs ++ Lib.runeCells r) w' ∧ Below B w w' := by
  have HA : Hid (∀ (v : Value) (u : World), u.ownsRow B 5 1 v bs.length bs → B ≤ u.heap.size → Calls Tryd.prog 100 #[v, .int .i32 r] u fun e w' => ∃ v', e = .returned v' ∧ w'.ownsRow B 5 1 v' (bs.length + (Lib.runeCells r).length) (bs ++ Lib.runeCells r) ∧ ∃ o, (u.alloc o).grownBy w' v.ownBlock) :=
    Lib.hid fun v u hu hb => Tryd.utf8_AppendRune_plain B v bs.length bs r hr0 hr1 u hu (by omega) hb
  have HR := Lib.hid (Lib.runeCells_le r)
  have HL := Lib.hid hlen
  clear hr0 hr1 hlen
  go_enter Tryd.func90, Tryd.ntmps90
  go_wp2_with fail
  refine (copyCheck_any B b bs _ h).mono ?_
  rintro e w1 ⟨rfl, h1, hb1, -⟩
  obtain ⟨hB, v, hbk, hown, hne⟩ := h1
  have HO := Lib.hid hown
  have HB1 := Lib.hid hb1
  have c0 : w1.cell? ⟨b, 0, none⟩ = some (.pointer (some ⟨b, 0, none⟩)) := by rw [Lib.cell_of_heap hbk]; rfl
  have c1 : w1.cell? ⟨b, 1, none⟩ = some v := by rw [Lib.cell_of_heap hbk]; rfl
  obtain ⟨n, hn⟩ : ∃ n, n = bs.length := ⟨_, rfl⟩
  obtain ⟨ao, cap, rfl⟩ : ∃ ao cap, v = .slice ao n cap := by
    rcases hown.2 with ⟨hv, h0⟩ | ⟨g, cap, cur, hv, _⟩
    · exact ⟨_, _, by rw [hv, hn, h0]⟩
    · exact ⟨_, cap, by rw [hv, hn]⟩
  have HN := Lib.hid hn
  have hnw : (n : Int) < 9223372036854775807 := by have := HL.out; omega
  clear hown hb1 hn h hnw
  go_wp2_with fail
  refine (HA.out _ _ HO.out (by have := HB1.out.size; omega)).mono ?_
  rintro e w2 ⟨v', rfl, hown', o, hgrow⟩
  have hb1 := HB1.out
  have hlt : b < w1.heap.size := lt_of_block hbk
  have hb2 : w2.heap[b]? = some (.cells #[.pointer (some ⟨b, 0, none⟩), .slice ao n cap] 64 (0, 0)) := by
    rw [hgrow.block b (by simp; omega) (fun e => hne e.symm), Lib.alloc_old w1 _ b hlt]
    exact hbk
  have HG2 := Lib.hid (show Below B w1 w2 from ((Below.refl B w1).alloc (by have := hb1.size; omega) o).grown hgrow (by have := hb1.size; simp; omega) (fun k hk => (HO.out.lt k hk).1))
  have d0 : w2.cell? ⟨b, 0, none⟩ = some (.pointer (some ⟨b, 0, none⟩)) := by rw [Lib.cell_of_heap hb2]; rfl
  have d1 : w2.cell? ⟨b, 1, none⟩ = some (.slice ao n cap) := by rw [Lib.cell_of_heap hb2]; rfl
  have f1 : w2.frozen? ⟨b, 1, none⟩ = false := Lib.frozen_of_heap hb2 1
  obtain ⟨k, hk⟩ : ∃ k, k = bs.length + (Lib.runeCells r).length := ⟨_, rfl⟩
  rw [← hk] at hown'
  obtain ⟨ao', cap', rfl⟩ : ∃ ao' cap', v' = .slice ao' k cap' := by
    rcases hown'.2 with ⟨hv, h0⟩ | ⟨g, cap, cur, hv, _⟩
    · exact ⟨_, _, by rw [hv, h0]⟩
    · exact ⟨_, _, hv⟩
  have HO2 := Lib.hid hown'
  have HK := Lib.hid hk
  have HB2 := Lib.hid hb2
  have HBK := Lib.hid (And.intro hB hne)
  have hkw : IntKind.i64.wrap ((k : Int) - n) = (k : Int) - n := by
    have := HN.out; have := HL.out; have := HR.out
    rw [IntKind.wrap_i64]; omega
  clear hown' hgrow hb1 hb2 hk hbk hB hne
  go_wp2
  go_ret2
  refine ⟨⟨_, rfl⟩, ?_, ?_⟩
  · exact Lib.BuilderAt.put HBK.out.1 HB2.out (bs' := bs ++ Lib.runeCells r) (by rw [List.length_append, ← HK.out]; exact HO2.out) (by decide)
  · exact (HB1.out.trans HG2.out).setCell (p := ⟨b, 1, none⟩) HBK.out.1 _
end Go.Proofs.YtngoipcjipbelaaDoor
