/- num: Of, FormatUint base 16, Hex. -/
import Derived.Test.YtkcgnmicaigjfaaDoorkON
import Derived.Test.YtkcgnmicaigjfaaDoorkBY
import Derived.Test.YtkcgnmicaigjfaaDoorkBZ
import Derived.Lib.AppendIntMem
import Derived.Outline
import Derived.Shelf.Spec.TrailingZeros
import Derived.WalkSmall
namespace Go.Proofs.YtkcgnmicaigjfaaDoor
set_option linter.unusedVariables false
set_option linter.unusedSimpArgs false
open Go.ChangeShapes Go.WideShapes Go.Deep Go.RowKit
theorem farS1 {n : Int} (h : n < 0) : farS n = -n := by unfold farS; rw [if_pos h]
theorem farS2 {n : Int} (h : ¬ n < 0) : farS n = n := by unfold farS; rw [if_neg h]
theorem tab_next {w w' : World} (h : Tab w) (hb : Below w.heap.size w w') : Tab w' := h.below hb h.2
theorem neg_u64 {n : Int} (h : n < 0) (h0 : -9223372036854775808 ≤ n) : IntKind.u64.wrap (-IntKind.u64.wrap n) = -n := by rw [IntKind.wrap_u64, IntKind.wrap_u64]; omega
set_option maxHeartbeats 1000000 in
theorem Of_any (n : Int) (w : World) (h0 : -9223372036854775808 ≤ n) (h1 : n ≤ 9223372036854775807) :
    Calls Tryd.prog 51 #[.int .i64 n] w (Ret (.tuple #[.bool (decide (n < 0)), .int .u64 (farS n)]) w) := by
  by_cases c : n < 0
  · rw [decide_eq_true c, farS1 c]
    have HW := Lib.hid (neg_u64 c h0)
    go_enter Tryd.func51, Tryd.ntmps51
    go_wp2
    go_ret2
    exact ret_bi (by first | rfl | rw [HW.out] | (simp only [IntKind.wrap_u64]; omega))
  · rw [decide_eq_false c, farS2 c]
    go_enter Tryd.func51, Tryd.ntmps51
    go_wp2
    go_ret2
    exact ret_bi (by first | rfl | (simp only [IntKind.wrap_u64]; omega))
theorem tz16 : Lib.ctz 64 16 = 4 := by decide +kernel
theorem tzu_any (w : World) (hT : TabAt 7 Lib.deBruijn64tab w) :
    Calls Tryd.prog 76 #[.int .u64 16] w (Ret (.int .i64 4) w) := by
  have HT : Hid (∀ w, TabAt 7 Lib.deBruijn64tab w → Calls Tryd.prog 82 #[.int .u64 16] w (Ret (.int .i64 4) w)) := Lib.hid fun w h => by
    have := tz_any 16 w (by decide) h
    rw [tz16] at this
    exact this
  have HH := Lib.hid hT
  clear hT
  go_enter Tryd.func76, Tryd.ntmps76
  go_wp2_with (first | (go_at_call 82; ((with_reducible refine (HT.out _ HH.out).mono ?_); rintro e w' ⟨rfl, rfl⟩)))
  go_ret
  exact ret_int rfl
theorem pow2_any (w : World) : Calls Tryd.prog 75 #[.int .i64 16] w (Ret (.bool true) w) := by
  have h : bits .and .i64 16 15 = 0 := by decide +kernel
  go_enter Tryd.func75, Tryd.ntmps75
  go_wp2
  go_ret
  exact ret_bool rfl

/-- The array of 65 bytes: i of them noughts, then the digits that are told. -/
def row65 (L : List UInt8) : List Value := List.replicate (65 - L.length) (.int .u8 0) ++ L.map fun c => .int .u8 (c.toNat : Int)
theorem row65_at (L : List UInt8) (j : Nat) (h : L.length ≤ 65) (hj : j < L.length) : (row65 L)[65 - L.length + j]? = some (.int .u8 (L[j].toNat : Int)) := by
  unfold row65
  rw [List.getElem?_append_right (by simp), List.length_replicate, Nat.add_sub_cancel_left]
  simp [hj]
theorem row65_old (L : List UInt8) (h : L.length < 65) : (row65 L)[64 - L.length]? = some (.int .u8 0) := by
  unfold row65
  rw [List.getElem?_append_left (by simp; omega), List.getElem?_replicate, if_pos (by omega)]
theorem row65_set (L : List UInt8) (c : UInt8) (h : L.length < 65) : (row65 L).set (64 - L.length) (.int .u8 (c.toNat : Int)) = row65 (c :: L) := by
  unfold row65
  rw [List.set_append_left _ _ (by simp; omega)]
  have e : 65 - L.length = (64 - L.length) + 1 := by omega
  rw [List.length_cons, show 65 - (L.length + 1) = 64 - L.length by omega, e, List.replicate_succ', List.set_append_right _ _ (by simp)]
  simp
abbrev Row65 (w : World) (M : Nat) (L : List UInt8) : Prop := w.heap[M]? = some (.cells (row65 L).toArray 110 (0, 0))
theorem row65_cell {w : World} {M : Nat} {L : List UInt8} (h : Row65 w M L) (hl : L.length < 65) : w.cell? ⟨M, 64 - L.length, none⟩ = some (.int .u8 0) := by
  unfold World.cell?; rw [h]; simpa using row65_old L hl
theorem row65_free {w : World} {M : Nat} {L : List UInt8} (h : Row65 w M L) (j : Nat) : w.frozen? ⟨M, j, none⟩ = false := by
  unfold World.frozen?; rw [h]; simp
theorem row65_store {w : World} {M : Nat} {L : List UInt8} (h : Row65 w M L) (hl : L.length < 65) (c : UInt8) : Row65 (w.setCell ⟨M, 64 - L.length, none⟩ (.int .u8 (c.toNat : Int))) M (c :: L) := by
  show (w.setCell ⟨M, 64 - L.length, none⟩ (.int .u8 (c.toNat : Int))).heap[M]? = _
  simp only [World.setCell, Array.getElem?_modify, if_true, h, Option.map_some]
  rw [← row65_set L c hl]
  simp
theorem row65_read {w : World} {M : Nat} {L : List UInt8} (h : Row65 w M L) (hl : L.length ≤ 65) (j : Nat) (hj : j < L.length) : w.cell? ⟨M, 65 - L.length + j, none⟩ = some (.int .u8 (L[j].toNat : Int)) := by
  unfold World.cell?; rw [h]; simpa using row65_at L j hl hj


def HexRel (w : World) (u M : Nat) (x i : Value) (wl : World) : Prop :=
  ∃ (v j : Nat) (L : List UInt8), v < 18446744073709551616 ∧ x = .int .u64 v ∧ i = .int .i64 ((j : Int) + 1) ∧ j + L.length = 64 ∧ digL 16 u = digL 16 v ++ L ∧ L.length ≤ 15 ∧ v * 16 ^ L.length ≤ u ∧ Row65 wl M L ∧ Below w.heap.size w wl
def FmtPost (u : Nat) (w : World) (e : Ending) (w' : World) : Prop := e = .returned (.tuple #[.slice none 0 0, .string ⟨(digL 16 u).toArray⟩]) ∧ Below w.heap.size w w'
theorem arr65 : Tryd.prog.arrayLen 110 = 65 := by kernel_rfl
theorem and15 (v : Nat) (hv : v < 18446744073709551616) : bits .and .u64 (v : Int) 15 = ((v % 16 : Nat) : Int) := by
  have := bits_and_u64_nat v 15 hv (by decide)
  rw [show v &&& 15 = v % 16 from Nat.and_two_pow_sub_one_eq_mod v 4] at this
  exact this
abbrev hexS : ByteArray := ⟨#[48, 49, 50, 51, 52, 53, 54, 55, 56, 57, 97, 98, 99, 100, 101, 102, 103, 104, 105, 106, 107, 108, 109, 110, 111, 112, 113, 114, 115, 116, 117, 118, 119, 120, 121, 122]⟩

theorem hex_get : ∀ d : Fin 16, hexS.get! (d.val + 0) = dgB d.val := by decide +kernel
theorem hex_at (d : Nat) (h : d < 16) (h' : d < hexS.size) : (hexS[d]'h') = dgB d := by
  have := hex_get ⟨d, h⟩
  rwa [get_at hexS d h'] at this
theorem hexRel_next {w wl : World} {u M v j : Nat} {L : List UInt8} (hge : 16 ≤ v) (hv : v < 18446744073709551616) (hj : j + L.length = 64) (hd : digL 16 u = digL 16 v ++ L) (hl : L.length + 1 ≤ 15) (hle : v * 16 ^ L.length ≤ u)
    (hrow : Row65 wl M L) (hb : Below w.heap.size w wl) (hM : w.heap.size ≤ M) (h' : v % 16 < hexS.size) :
    HexRel w u M (.int .u64 ((v : Int) / 16)) (.int .i64 j) (wl.setCell ⟨M, j, none⟩ (.int .u8 ((hexS[v % 16]'h').toNat : Int))) := by
  rw [hex_at (v % 16) (Nat.mod_lt _ (by decide)) h']
  refine ⟨v / 16, j - 1, dgB (v % 16) :: L, by omega, by simp, by congr 1; omega, by rw [List.length_cons]; omega, ?_, by rw [List.length_cons]; omega, ?_, ?_, hb.setCell (p := ⟨M, j, none⟩) hM _⟩
  · rw [hd, digL_big hge (by decide)]; simp
  · rw [List.length_cons, Nat.pow_succ, ← Nat.mul_assoc, Nat.mul_right_comm]
    exact Nat.le_trans (Nat.mul_le_mul_right _ (Nat.div_mul_le_self v 16)) hle
  · have := row65_store hrow (by omega) (dgB (v % 16))
    rwa [show 64 - L.length = j by omega] at this

set_option maxHeartbeats 4000000 in
set_option maxRecDepth 100000 in
theorem fmtBits_any (u : Nat) (w : World) (hu64 : u < 18446744073709551616) (hT : Tab w) :
    Calls Tryd.prog 58 #[.slice none 0 0, .int .u64 u, .int .i64 16, .bool false, .bool false] w (FmtPost u w) := by
  have HP : Hid (∀ w, Calls Tryd.prog 75 #[.int .i64 16] w (Ret (.bool true) w)) := Lib.hid fun w => pow2_any w
  have HZ : Hid (∀ w, Tab w → Calls Tryd.prog 76 #[.int .u64 16] w (Ret (.int .i64 4) w)) := Lib.hid fun w h => tzu_any w h.1
  have HT := Lib.hid hT
  clear hT
  have hb0 : Below w.heap.size w (w.alloc (.cells (row65 []).toArray 110)) := (Below.refl w.heap.size w).alloc (Nat.le_refl _) _
  have HB0 := Lib.hid hb0
  clear hb0
  have hz : ∀ w, (zeroValue 110).run Tryd.prog w = .ok (.agg (row65 []).toArray) w := fun _ => by kernel_rfl
  go_enter Tryd.func58, Tryd.ntmps58
  go_wp2_with (first | (go_at_call 75; ((with_reducible refine (HP.out _).mono ?_); rintro e w' ⟨rfl, rfl⟩)) | (go_at_call 76; ((with_reducible refine (HZ.out _ (tab_next HT.out HB0.out)).mono ?_); rintro e w' ⟨rfl, rfl⟩)))
  obtain ⟨M, hM⟩ : ∃ M, M = w.heap.size := ⟨_, rfl⟩
  obtain ⟨wa, hwa⟩ : ∃ wa, wa = w.alloc (.cells (row65 []).toArray 110) := ⟨_, rfl⟩
  have hrow : Row65 wa M [] := by rw [hwa, hM]; exact (MapKept.heap_alloc w _).1
  have HR := Lib.hid hrow
  have HM : Hid (w.heap.size ≤ M) := Lib.hid (by omega)
  rw [← hwa] at HB0
  rw [← hM, ← hwa]
  clear hM hwa hrow
  go_loopw [1, 13] (fun x i wl => HexRel w u M x i wl) (fun x _ _ => (intOf x).toNat)
  case atStart => exact ⟨u, 64, [], hu64, rfl, rfl, rfl, by simp, by simp, by simp, HR.out, HB0.out⟩
  case round =>
    obtain ⟨v, j, L, hv, rfl, rfl, hj, hd, hl, hle, hrow, hb⟩ := hrel
    have HD := Lib.hid hd
    have HR1 := Lib.hid hrow
    have HB1 := Lib.hid hb
    have HLE := Lib.hid hle
    have HJ := Lib.hid hj
    have hj2 : j ≤ 64 := by omega
    have hj3 : 49 ≤ j := by omega
    have hcell : wr.cell? ⟨M, j, none⟩ = some (.int .u8 0) := by have := row65_cell hrow (by omega); rwa [show 64 - L.length = j by omega] at this
    have hfree : wr.frozen? ⟨M, j, none⟩ = false := row65_free hrow j
    clear hd hrow hb hle HR HB0
    have h15 := and15 v hv
    by_cases hge : 16 ≤ v
    · have hl2 : L.length + 1 ≤ 15 := by
        apply Classical.byContradiction
        intro hc
        have h1 : 16 ^ 15 ≤ 16 ^ L.length := Nat.pow_le_pow_right (by decide) (by omega)
        have h2 := HLE.out
        have h3 : 16 * 16 ^ 15 ≤ v * 16 ^ L.length := Nat.mul_le_mul hge h1
        omega
      clear hj
      go_wp2
      go_roundw
      case rel => exact hexRel_next hge hv HJ.out HD.out hl2 HLE.out HR1.out HB1.out HM.out _
      case measure => simp [intOf]; omega
    · have hm : v % 16 = v := Nat.mod_eq_of_lt (by omega)
      rw [hm] at h15
      clear hm hj
      have h36 : v < hexS.size := Nat.lt_of_lt_of_le (show v < 16 by omega) (by decide)
      have hfin : Row65 (wr.setCell ⟨M, j, none⟩ (.int .u8 (((⟨#[48, 49, 50, 51, 52, 53, 54, 55, 56, 57, 97, 98, 99, 100, 101, 102, 103, 104, 105, 106, 107, 108, 109, 110, 111, 112, 113, 114, 115, 116, 117, 118, 119, 120, 121, 122]⟩ : ByteArray)[v]'h36).toNat : Int))) M (dgB v :: L) := by
        have := row65_store HR1.out (by omega) (dgB v)
        rw [show 64 - L.length = j by have := HJ.out; omega] at this
        rw [← hex_at v (by omega) h36] at this
        rw [← hex_at v (by omega) h36]
        exact this
      have hdig : digL 16 u = dgB v :: L := by rw [HD.out, digL_small (by omega)]; rfl
      have hsl : ∀ W, (Instr.sliceAt 110 (.pointer (some ⟨M, 0, none⟩)) (some (.int .i64 (j : Int))) none none).run Tryd.prog W = .ok (.slice (some ⟨M, j, none⟩) (65 - j) (65 - j)) W := fun W => by
        rw [run_sliceAt_array_l W 110 ⟨M, 0, none⟩ (by kernel_rfl) .i64 (j : Int) (by omega) (by rw [arr65]; omega)]
        rw [arr65]
        go_simp
        omega
      have hcv : (convert 38 9 (.slice (some ⟨M, j, none⟩) (65 - j) (65 - j))).run Tryd.prog (wr.setCell ⟨M, j, none⟩ (.int .u8 (((⟨#[48, 49, 50, 51, 52, 53, 54, 55, 56, 57, 97, 98, 99, 100, 101, 102, 103, 104, 105, 106, 107, 108, 109, 110, 111, 112, 113, 114, 115, 116, 117, 118, 119, 120, 121, 122]⟩ : ByteArray)[v]'h36).toNat : Int))) = .ok (.string ⟨(digL 16 u).toArray⟩) (wr.setCell ⟨M, j, none⟩ (.int .u8 (((⟨#[48, 49, 50, 51, 52, 53, 54, 55, 56, 57, 97, 98, 99, 100, 101, 102, 103, 104, 105, 106, 107, 108, 109, 110, 111, 112, 113, 114, 115, 116, 117, 118, 119, 120, 121, 122]⟩ : ByteArray)[v]'h36).toNat : Int))) := by
        have h := run_convert_bytes_back (P := Tryd.prog) (wr.setCell ⟨M, j, none⟩ (.int .u8 (((⟨#[48, 49, 50, 51, 52, 53, 54, 55, 56, 57, 97, 98, 99, 100, 101, 102, 103, 104, 105, 106, 107, 108, 109, 110, 111, 112, 113, 114, 115, 116, 117, 118, 119, 120, 121, 122]⟩ : ByteArray)[v]'h36).toNat : Int))) 38 9 5 ⟨M, j, none⟩ (65 - j) (dgB v :: L) Tryd.underlying38 Tryd.underlying5 Tryd.underlying9 (fun k hk => by
          rw [Lib.add_plain]
          have := row65_read hfin (by rw [List.length_cons]; omega) k hk
          rwa [show 65 - (dgB v :: L).length = j by rw [List.length_cons]; have := HJ.out; omega] at this)
        rw [show (dgB v :: L).length = 65 - j by rw [List.length_cons]; have := HJ.out; omega, ← hdig] at h
        exact h
      have HBF : Hid (Below w.heap.size w (wr.setCell ⟨M, j, none⟩ (.int .u8 (((⟨#[48, 49, 50, 51, 52, 53, 54, 55, 56, 57, 97, 98, 99, 100, 101, 102, 103, 104, 105, 106, 107, 108, 109, 110, 111, 112, 113, 114, 115, 116, 117, 118, 119, 120, 121, 122]⟩ : ByteArray)[v]'h36).toNat : Int)))) := Lib.hid (HB1.out.setCell (p := ⟨M, j, none⟩) HM.out _)
      clear hfin hdig
      go_wp2
      go_ret2
      exact ⟨rfl, HBF.out⟩
def hexB (u : Nat) : ByteArray := ⟨(48 :: 120 :: digL 16 u).toArray⟩
theorem hex_cat (u : Nat) : (⟨#[48, 120]⟩ : ByteArray) ++ ⟨(digL 16 u).toArray⟩ = hexB u := by
  unfold hexB
  rw [ByteArray.mk_append_mk]
  simp
theorem dig16_len (u : Nat) (h : u < 18446744073709551616) : (digL 16 u).length ≤ 16 := digL_len 16 15 (by decide) u (Nat.lt_of_lt_of_le h (by decide))
set_option maxHeartbeats 400000 in
theorem fmt16_any (u : Nat) (w : World) (hu : u < 18446744073709551616) (hT : Tab w) :
    Calls Tryd.prog 45 #[.int .u64 u, .int .i64 16] w (RetB (.string ⟨(digL 16 u).toArray⟩) w) := by
  have HF : Hid (Calls Tryd.prog 58 #[.slice none 0 0, .int .u64 u, .int .i64 16, .bool false, .bool false] w (FmtPost u w)) := Lib.hid (fmtBits_any u w hu hT)
  clear hT
  go_enter Tryd.func45, Tryd.ntmps45
  go_wp2_with fail
  refine HF.out.mono ?_
  rintro e w1 ⟨rfl, hb⟩
  have HB := Lib.hid hb
  clear hb
  go_wp2
  go_ret
  exact ⟨rfl, HB.out⟩
theorem Hex_any (u : Nat) (w : World) (hu : u < 18446744073709551616) (hT : Tab w) :
    Calls Tryd.prog 16 #[.int .u64 u] w (RetB (.string (hexB u)) w) := by
  obtain ⟨D, hD, HF⟩ : ∃ D : ByteArray, D = ⟨(digL 16 u).toArray⟩ ∧ Hid (Calls Tryd.prog 45 #[.int .u64 u, .int .i64 16] w (RetB (.string D) w)) := ⟨_, rfl, Lib.hid (fmt16_any u w hu hT)⟩
  clear hT
  have HG : Hid (Calls Tryd.prog 32 #[.int .u64 u, .int .i64 16] w (RetB (.string D) w)) := Lib.hid (by
    clear hD
    go_enter Tryd.func32, Tryd.ntmps32
    go_wp2_with fail
    refine HF.out.mono ?_
    rintro e w1 ⟨rfl, hb⟩
    have HB := Lib.hid hb
    clear hb
    go_wp2
    go_ret
    exact ⟨rfl, HB.out⟩)
  have HE : Hid ((⟨#[48, 120]⟩ : ByteArray) ++ D = hexB u) := Lib.hid (by rw [hD]; exact hex_cat u)
  have hsz : D.size ≤ 16 := by rw [hD]; exact dig16_len u hu
  clear hD
  go_enter Tryd.func16, Tryd.ntmps16
  go_wp2_with fail
  refine HG.out.mono ?_
  rintro e w1 ⟨rfl, hb⟩
  have HB := Lib.hid hb
  clear hb
  go_wp2
  go_ret
  exact ⟨by rw [← HE.out]; rfl, HB.out⟩

end Go.Proofs.YtkcgnmicaigjfaaDoor
