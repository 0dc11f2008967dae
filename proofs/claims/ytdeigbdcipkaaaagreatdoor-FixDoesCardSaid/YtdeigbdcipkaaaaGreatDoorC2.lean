/- What bits.Word and bits.Field answer, on top of the masks' texts. -/
import Derived.Test.YtdeigbdcipkaaaaGreatDoorC1
import Derived.Test.YtdeigbdcipkaaaaGreatDoorR0
import Derived.Test.YtdeigbdcipkaaaaGreatDoorCM
import Derived.Deep.QuietTactic
import Derived.BigQuiet
namespace Go.Proofs.YtdeigbdcipkaaaaGreatDoor
set_option linter.unusedVariables false
set_option linter.unusedSimpArgs false
open Go.RowKit

structure FS (w : World) (B : Nat) (a : Option Addr) (n : Nat) (l : List F3) : Prop where
  len : n = l.length
  wf : ∀ f ∈ l, 0 ≤ f.2.2 ∧ f.2.2 < 4294967296 ∧ -9223372036854775808 ≤ f.1 ∧ f.1 ≤ 9223372036854775807 ∧ -9223372036854775808 ≤ f.2.1 ∧ f.2.1 ≤ 9223372036854775807
  cells : l ≠ [] → ∃ b off, a = some ⟨b, off, none⟩ ∧ b < B ∧ ∀ k (h : k < l.length),
    w.cell? ⟨b, off + k * 3, none⟩ = some (.int .i64 l[k].1) ∧ w.cell? ⟨b, off + k * 3 + 1, none⟩ = some (.int .i64 l[k].2.1) ∧ w.cell? ⟨b, off + k * 3 + 2, none⟩ = some (.int .u32 l[k].2.2)
theorem FS.below {w w' : World} {B : Nat} {a : Option Addr} {n : Nat} {l : List F3} (h : FS w B a n l) (hb : Below B w w') : FS w' B a n l :=
  ⟨h.len, h.wf, fun hl => by
    obtain ⟨b, off, e, hB, hc⟩ := h.cells hl
    refine ⟨b, off, e, hB, fun k hk => ?_⟩
    obtain ⟨h0, h1, h2⟩ := hc k hk
    exact ⟨(hb.cell (p := ⟨b, off + k * 3, none⟩) hB).trans h0, (hb.cell (p := ⟨b, off + k * 3 + 1, none⟩) hB).trans h1, (hb.cell (p := ⟨b, off + k * 3 + 2, none⟩) hB).trans h2⟩⟩

set_option maxHeartbeats 400000 in
theorem apart_any (a : Option Addr) (n c : Nat) (l : List F3) (w : World) (hn : n ≤ 1000000) (h : FS w w.heap.size a n l) :
    Calls Tryz.prog 57 #[.slice a n c] w (RetB (.bool (apartL l 0)) w) := by
  go_enter Tryz.func57, Tryz.ntmps57
  go_wp2
  go_loopw [3, 9] (fun t i wr => ∃ k tk : Nat, k ≤ n ∧ i = .int .i64 k ∧ t = .int .u32 tk ∧ tk < 4294967296 ∧ apartL l 0 = apartL (l.drop k) tk ∧ Below w.heap.size w wr) (fun _ i _ => n - (intOf i).toNat)
  case atStart => exact ⟨0, 0, by omega, rfl, rfl, by decide, rfl, Below.refl _ _⟩
  case round =>
    obtain ⟨k, tk, hk, rfl, rfl, htk, hap, hb⟩ := hrel
    have hlen := h.len
    by_cases hlt : k < n
    · obtain ⟨b, off, rfl, hB, hc⟩ := (h.below hb).cells (by intro e; rw [e] at hlen; simp at hlen; omega)
      have hkl : k < l.length := by omega
      obtain ⟨c0, c1, c2⟩ := hc k hkl
      obtain ⟨v0, v1, n0, n1, m0, m1⟩ := h.wf l[k] (List.getElem_mem _)
      have HD := Lib.hid (drop_cons hkl)
      generalize l[k] = f at c0 c1 c2 v0 v1 HD n0 n1 m0 m1
      obtain ⟨A, N, V⟩ := f
      have HL := Lib.hid hlen
      have HAP := Lib.hid hap
      clear hc hlen hap h
      by_cases hr : 0 ≤ A ∧ A < 32 ∧ 1 ≤ N ∧ N ≤ 32 - A
      · have hrf : decide (0 ≤ A ∧ A < 32 ∧ 1 ≤ N ∧ N ≤ 32 - A) = true := by simpa using hr
        obtain ⟨r1, r2, r3, r4⟩ := hr
        go_wp2_with (first | (go_at_call 80; refine (right_any _ _ _).mono ?_; rintro e w' ⟨rfl, rfl⟩))
        go_quiet ((go_at_call 58; exact Calls.quiet_of_same ((bitones_any _ _ (by omega) (by omega)).mono fun e w' h => ⟨h.1, h.2.symm⟩)))
        obtain ⟨B, hB1, hB2, hB3⟩ : ∃ B : Nat, ((2 : Int) ^ N.toNat - 1) * 2 ^ A.toNat % 4294967296 = B ∧ B = bitsOf (A, N, V) ∧ B < 4294967296 :=
          ⟨_, (bitsOf_int (A, N, V) r1 (show 0 ≤ N by omega) r4).1, rfl, (bitsOf_int (A, N, V) r1 (show 0 ≤ N by omega) r4).2⟩
        have hand := u32_and_nat tk B (by omega) (by omega)
        have hor := Lib.hid (u32_or_nat tk B (by omega) (by omega))
        have H2 := Lib.hid hB2
        clear hB2
        by_cases hz : tk &&& B = 0
        · have hz2 : (bits BinOp.and IntKind.u32 (tk : Int) (B : Int) != 0) = false := by rw [hand, hz]; rfl
          have HZ := Lib.hid hz
          have hlt' : tk ||| B < 4294967296 := Nat.or_lt_two_pow (n := 32) htk hB3
          clear hand hz
          go_wp2_with fail
          go_roundw
          case rel => exact ⟨k + 1, tk ||| B, by omega, by go_num, by rw [hor.out], hlt', by rw [HAP.out, HD.out, apartL, if_neg (by simpa [rightB] using ⟨r1, r2, r3, r4⟩), ← H2.out, if_neg (by rw [HZ.out]; simp)], below_drewN (hb.alloc hb.size _) _⟩
          case measure => simp [intOf]; omega
        · have hz2 : (bits BinOp.and IntKind.u32 (tk : Int) (B : Int) != 0) = true := by rw [hand]; simp only [bne_iff_ne]; omega
          have HZ := Lib.hid hz
          clear hand hz
          go_wp2_with fail
          go_ret
          refine retB_bool ?_ (below_drewN (hb.alloc hb.size _) _)
          rw [HAP.out, HD.out, apartL, if_neg (by simpa [rightB] using ⟨r1, r2, r3, r4⟩), ← H2.out, if_pos HZ.out]
      · have hrf : decide (0 ≤ A ∧ A < 32 ∧ 1 ≤ N ∧ N ≤ 32 - A) = false := by simpa using hr
        have HR := Lib.hid hr
        clear hr
        go_wp2_with (first | (go_at_call 80; refine (right_any _ _ _).mono ?_; rintro e w' ⟨rfl, rfl⟩))
        go_ret
        refine retB_bool ?_ ((hb.alloc hb.size _))
        rw [HAP.out, HD.out, apartL, if_pos]
        simpa [rightB] using HR.out
    · go_wp2
      go_ret
      refine retB_bool ?_ hb
      rw [hap, List.drop_of_length_le (by omega)]; rfl

set_option maxHeartbeats 400000 in
theorem word_no (a : Option Addr) (n c : Nat) (l : List F3) (w : World) (hn : n ≤ 1000000) (h : FS w w.heap.size a n l) (hap : apartL l 0 = false) :
    Calls Tryz.prog 38 #[.slice a n c] w (RetB (two .u32 .i64 (wordS l)) w) := by
  have HA := apart_any a n c l w hn h
  rw [hap] at HA
  have HA := Lib.hid HA
  have HP := Lib.hid hap
  clear hap
  go_enter Tryz.func38, Tryz.ntmps38
  go_wp2_with (go_at_call 57; refine (HA.out).mono ?_; rintro e w' ⟨rfl, hb⟩)
  go_ret2
  exact ⟨by unfold wordS two; rw [if_pos HP.out]; rfl, hb⟩

set_option maxHeartbeats 400000 in
theorem word_yes (a : Option Addr) (n c : Nat) (l : List F3) (w : World) (hn : n ≤ 1000000) (h : FS w w.heap.size a n l) (hap : apartL l 0 = true) :
    Calls Tryz.prog 38 #[.slice a n c] w (RetB (two .u32 .i64 (wordL l 0)) w) := by
  have HA := apart_any a n c l w hn h
  rw [hap] at HA
  have HA := Lib.hid HA
  have HP := Lib.hid (apartL_right l 0 hap)
  clear hap
  go_enter Tryz.func38, Tryz.ntmps38
  go_wp2_with (go_at_call 57; refine (HA.out).mono ?_; rintro e w' ⟨rfl, hb⟩)
  go_loopw [4, 12] (fun t i wr => ∃ k tk : Nat, k ≤ n ∧ i = .int .i64 k ∧ t = .int .u32 tk ∧ tk < 4294967296 ∧ wordL l 0 = wordL (l.drop k) tk ∧ Below w.heap.size w wr) (fun _ i _ => n - (intOf i).toNat)
  case atStart => exact ⟨0, 0, by omega, rfl, rfl, by decide, rfl, hb⟩
  case round =>
    clear hb
    obtain ⟨k, tk, hk, rfl, rfl, htk, hap, hb⟩ := hrel
    have hlen := h.len
    by_cases hlt : k < n
    · obtain ⟨b, off, rfl, hB, hc⟩ := (h.below hb).cells (by intro e; rw [e] at hlen; simp at hlen; omega)
      have hkl : k < l.length := by omega
      obtain ⟨c0, c1, c2⟩ := hc k hkl
      obtain ⟨v0, v1, -⟩ := h.wf l[k] (List.getElem_mem _)
      have HD := Lib.hid (drop_cons hkl)
      have hr := HP.out l[k] (List.getElem_mem _)
      generalize l[k] = f at c0 c1 c2 v0 v1 HD hr
      obtain ⟨A, N, V⟩ := f
      obtain ⟨r1, r2, r3, r4⟩ := (show 0 ≤ A ∧ A < 32 ∧ 1 ≤ N ∧ N ≤ 32 - A from of_decide_eq_true hr)
      replace v0 : 0 ≤ V := v0
      replace v1 : V < 4294967296 := v1
      have HL := Lib.hid hlen
      have HAP := Lib.hid hap
      have ha := andNot_ones V N v0 v1 (by omega) (by omega)
      clear hc hlen hap h hr
      by_cases hr : (2 : Int) ^ N.toNat ≤ V
      · have ha' : (bits BinOp.andNot IntKind.u32 V (2 ^ N.toNat - 1) != 0) = true := by rw [ha]; simpa using hr
        have HR := Lib.hid hr
        clear ha hr
        go_wp2_with fail
        go_quiet ((go_at_call 58; exact Calls.quiet_of_same ((bitones_any _ _ (by omega) (by omega)).mono fun e w' h => ⟨h.1, h.2.symm⟩)))
        go_wp2_with fail
        go_ret2
        refine ⟨?_, below_drewN (hb.alloc hb.size _) _⟩
        rw [HAP.out, HD.out, wordL, if_pos HR.out]; rfl
      · have ha' : (bits BinOp.andNot IntKind.u32 V (2 ^ N.toNat - 1) != 0) = false := by rw [ha]; simpa using hr
        obtain ⟨hs, hs2⟩ := shl_int V A N r1 r3 r4 v0 (by omega)
        obtain ⟨B, hB1, hB2, hB3⟩ : ∃ B : Nat, V * 2 ^ A.toNat % 4294967296 = B ∧ B = V.toNat * 2 ^ A.toNat ∧ B < 4294967296 := ⟨_, hs, rfl, hs2⟩
        have HR := Lib.hid hr
        have H2 := Lib.hid hB2
        have hor := Lib.hid (u32_or_nat tk B (by omega) (by omega))
        have hlt' : tk ||| B < 4294967296 := Nat.or_lt_two_pow (n := 32) htk hB3
        clear ha hr hB2 hs hs2
        go_wp2_with fail
        go_quiet ((go_at_call 58; exact Calls.quiet_of_same ((bitones_any _ _ (by omega) (by omega)).mono fun e w' h => ⟨h.1, h.2.symm⟩)))
        go_wp2_with fail
        go_roundw
        case rel => exact ⟨k + 1, tk ||| B, by omega, by go_num, by rw [hor.out], hlt', by rw [HAP.out, HD.out, wordL, if_neg (by have := HR.out; show ¬ (2 : Int) ^ N.toNat ≤ V; omega), H2.out], below_drewN (hb.alloc hb.size _) _⟩
        case measure => simp [intOf]; omega
    · go_wp2
      go_ret2
      refine ⟨?_, hb⟩
      rw [hap, List.drop_of_length_le (by omega)]; rfl

theorem word_any (a : Option Addr) (n c : Nat) (l : List F3) (w : World) (hn : n ≤ 1000000) (h : FS w w.heap.size a n l) :
    Calls Tryz.prog 38 #[.slice a n c] w (RetB (two .u32 .i64 (wordS l)) w) := by
  cases hap : apartL l 0
  · exact word_no a n c l w hn h hap
  · have := word_yes a n c l w hn h hap
    unfold wordS; rw [if_neg (by simp [hap])]; exact this
set_option maxHeartbeats 400000 in
theorem field_any (v a n : Int) (w : World) (h0 : 0 ≤ v) (h1 : v < 4294967296) :
    Calls Tryz.prog 72 #[.int .u32 v, .int .i64 a, .int .i64 n] w (RetD (two .u32 .i64 (fieldS v a n)) w) := by
  by_cases h : 0 ≤ a ∧ a < 32 ∧ 1 ≤ n ∧ n ≤ 32 - a
  · have hr : decide (0 ≤ a ∧ a < 32 ∧ 1 ≤ n ∧ n ≤ 32 - a) = true := by simpa using h
    obtain ⟨r1, r2, r3, r4⟩ := h
    have hp := pow32 a (by omega)
    have hq0 : 0 ≤ v / 2 ^ a.toNat := Int.ediv_nonneg h0 (by omega)
    have hq1 : v / 2 ^ a.toNat ≤ v := Int.ediv_le_self _ h0
    have ha := and_ones32 (v / 2 ^ a.toNat) n hq0 (by omega) (by omega) (by omega)
    have hf : fieldS v a n = (v / 2 ^ a.toNat % 2 ^ n.toNat, 0) := by unfold fieldS rightB; rw [hr]; rfl
    have HF := Lib.hid hf
    clear hf
    go_enter Tryz.func72, Tryz.ntmps72
    go_wp2_with (first | (go_at_call 80; refine (right_any _ _ _).mono ?_; rintro e w' ⟨rfl, rfl⟩) | (go_at_call 58; refine (bitones_any _ _ (by omega) (by omega)).mono ?_; rintro e w' ⟨rfl, rfl⟩))
    go_quiet ((go_at_call 58; exact Calls.quiet_of_same ((bitones_any _ _ (by omega) (by omega)).mono fun e w' h => ⟨h.1, h.2.symm⟩)))
    go_wp2
    go_ret2
    exact retD_two HF.out _
  · have hr : decide (0 ≤ a ∧ a < 32 ∧ 1 ≤ n ∧ n ≤ 32 - a) = false := by simpa using h
    have hf : fieldS v a n = (0, 1) := by unfold fieldS rightB; rw [hr]; rfl
    have HF := Lib.hid hf
    clear hf h
    go_enter Tryz.func72, Tryz.ntmps72
    go_wp2_with (first | (go_at_call 80; refine (right_any _ _ _).mono ?_; rintro e w' ⟨rfl, rfl⟩))
    go_ret2
    exact retD_two HF.out 0
theorem field_eq (v a n : Int) (w : World) (x e : Int) (h : 0 ≤ v ∧ v < 4294967296) (he : fieldS v a n = (x, e)) :
    Calls Tryz.prog 72 #[.int .u32 v, .int .i64 a, .int .i64 n] w (RetD (.tuple #[.int .u32 x, .int .i64 e]) w) := by
  have := field_any v a n w h.1 h.2
  rwa [he] at this
theorem FS.up {w : World} {B : Nat} {a : Option Addr} {n : Nat} {l : List F3} (h : FS w B a n l) {B' : Nat} (hB : B ≤ B') : FS w B' a n l :=
  ⟨h.len, h.wf, fun hl => by obtain ⟨b, off, e, h1, h2⟩ := h.cells hl; exact ⟨b, off, e, by omega, h2⟩⟩
theorem FS.next {w w' : World} {a : Option Addr} {n : Nat} {l : List F3} (h : FS w w.heap.size a n l) (hb : Below w.heap.size w w') : FS w' w'.heap.size a n l :=
  (h.below hb).up hb.size

end Go.Proofs.YtdeigbdcipkaaaaGreatDoor
