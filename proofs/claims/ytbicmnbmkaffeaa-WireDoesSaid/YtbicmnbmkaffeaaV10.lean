/- The reference of wire. -/
import Derived.Test.YtbicmnbmkaffeaaV8
import Derived.Laws.IdiomStrings
namespace Go.Proofs.Ytbicmnbmkaffeaa
set_option linter.unusedVariables false
set_option linter.unusedSimpArgs false
open Go.RowKit

set_option maxHeartbeats 400000 in
theorem Power_any (n : Int) (w : World) (h : n ≤ 63) :
    Calls Try.prog 36 #[.int .i64 n] w (Ret (.int .u64 (2 ^ n.toNat)) w) := by
  go_enter Try.func36, Try.ntmps36
  go_wp2
  go_loop [3, 4] (fun p i => ∃ k : Nat, k ≤ n.toNat ∧ i = .int .i64 k ∧ p = .int .u64 (2 ^ k)) (fun _ i => n.toNat - (intOf i).toNat)
  case atStart => exact ⟨0, Nat.zero_le _, rfl, rfl⟩
  case round =>
    obtain ⟨k, hk, rfl, rfl⟩ := hrel
    by_cases hlt : (k : Int) < n
    · have hp := pow_le (k + 1) 63 (by omega) 9223372036854775808 (by decide)
      have e : IntKind.u64.wrap (2 * 2 ^ k) = 2 ^ (k + 1) := by
        rw [Int.pow_succ] at hp ⊢
        rw [IntKind.wrap_u64]; omega
      have E := Lib.hid e
      clear e hp
      go_wp2
      go_round
      case rel => exact ⟨k + 1, by omega, by go_num, by rw [E.out]⟩
      case measure => simp [intOf]; omega
    · go_wp2
      go_ret
      exact ret_int (by rw [show n.toNat = k from by omega])

theorem power7 (k : Nat) (w : World) (h : k ≤ 9) : Calls Try.prog 36 #[.int .i64 (7 * (k : Int))] w (Ret (.int .u64 ((128 ^ k : Nat) : Int)) w) := by
  have := Power_any (7 * (k : Int)) w (by omega)
  rwa [show (7 * (k : Int)).toNat = 7 * k from by omega, ← pow_cast, Nat.pow_mul] at this

theorem sum_wrap (u x k : Nat) (h : u + x * 128 ^ k < 18446744073709551616) : IntKind.u64.wrap ((u : Int) + IntKind.u64.wrap ((x : Int) * ((128 ^ k : Nat) : Int))) = ((u + x * 128 ^ k : Nat) : Int) := by
  simp only [IntKind.wrap_u64]
  have e : (x : Int) * ((128 ^ k : Nat) : Int) = ((x * 128 ^ k : Nat) : Int) := by rw [Int.natCast_mul]
  rw [e]
  omega

set_option maxRecDepth 100000 in
set_option maxHeartbeats 1000000 in
theorem refGet_any (D : ByteArray) (w : World) (hs : D.size ≤ 2000) : Calls Try.prog 21 #[.string D] w (Ret (gv (getL D.data.toList)) w) := by
  have HL := Lib.hid (bytes_len D)
  go_enter Try.func21, Try.ntmps21
  go_wp2
  go_loop [5, 6] (fun v i => ∃ k u : Nat, k ≤ 9 ∧ k ≤ D.size ∧ i = .int .i64 k ∧ v = .int .u64 (u : Int) ∧ u < 128 ^ k ∧ getL D.data.toList = getF k u (D.data.toList.drop k)) (fun _ i => D.size - (intOf i).toNat)
  case atStart => exact ⟨0, 0, by omega, by omega, rfl, rfl, by decide, rfl⟩
  case round =>
    obtain ⟨k, u, hk9, hk, rfl, rfl, hu, hg⟩ := hrel
    have HG := Lib.hid hg
    have HU := Lib.hid hu
    clear hg hu
    by_cases hlt : k < D.size
    · have HD := Lib.hid (bytes_drop D k hlt)
      generalize hb : D[k] = b at *
      have hb2 : b.toNat < 256 := b.toNat_lt
      have OE : Hid (k ≠ 9 → b.toNat < 128 → u + b.toNat * 128 ^ k < 18446744073709551616) := Lib.hid fun h1 h2 => by
        have h3 : b.toNat * 128 ^ k ≤ 127 * 128 ^ k := Nat.mul_le_mul_right _ (by omega)
        have h4 := pow_b (k := k + 1) (by omega)
        have := HU.out
        rw [pow_s] at h4
        omega
      have ON : Hid (k = 9 → b.toNat ≤ 1 → u + b.toNat * 128 ^ k < 18446744073709551616) := Lib.hid fun h1 h2 => by
        have := HU.out; subst h1; rw [pow_9] at this ⊢; omega
      have OU : Hid (k ≠ 9 → u + b.toNat % 128 * 128 ^ k < 128 ^ (k + 1)) := Lib.hid fun _ => on_lt HU.out
      have OV : Hid (k ≠ 9 → u + b.toNat % 128 * 128 ^ k < 18446744073709551616) := Lib.hid fun h => by have h4 := pow_b (k := k + 1) (by omega); have := on_lt (b := b.toNat) HU.out; omega
      have HPW := Lib.hid fun w => power7 k w hk9
      obtain ⟨p, hp⟩ : ∃ p : Nat, p = 128 ^ k := ⟨_, rfl⟩
      have HP := Lib.hid hp
      rw [← hp] at HPW
      have SE : Hid (k ≠ 9 → b.toNat < 128 → IntKind.u64.wrap ((u : Int) + IntKind.u64.wrap ((b.toNat : Int) % 128 * (p : Int))) = ((u + b.toNat * 128 ^ k : Nat) : Int)) := Lib.hid fun h1 h2 => by
        rw [HP.out, ← sum_wrap u b.toNat k (OE.out h1 h2), Int.emod_eq_of_lt (by omega) (by omega)]
      have SO : Hid (k ≠ 9 → IntKind.u64.wrap ((u : Int) + IntKind.u64.wrap ((b.toNat : Int) % 128 * (p : Int))) = ((u + b.toNat % 128 * 128 ^ k : Nat) : Int)) := Lib.hid fun h1 => by
        rw [HP.out, ← sum_wrap u (b.toNat % 128) k (OV.out h1)]; rfl
      obtain ⟨q, hq⟩ : ∃ q : Nat, q = 128 ^ 9 := ⟨_, rfl⟩
      have HP9 : Hid (∀ w, Calls Try.prog 36 #[.int .i64 63] w (Ret (.int .u64 (q : Int)) w)) := Lib.hid fun w => by
        have := power7 9 w (by decide)
        rw [hq]; exact this
      have SN : Hid (k = 9 → b.toNat ≤ 1 → IntKind.u64.wrap ((u : Int) + IntKind.u64.wrap ((b.toNat : Int) % 128 * (q : Int))) = ((u + b.toNat * 128 ^ k : Nat) : Int)) := Lib.hid fun h1 h2 => by
        rw [← sum_wrap u b.toNat k (ON.out h1 h2), Int.emod_eq_of_lt (by omega) (by omega), hq, h1]
      clear hp hq
      go_wp2_with (first | (go_at_call 36; ((with_reducible refine (HPW.out _).mono ?_); rintro e w' ⟨rfl, rfl⟩)) | (go_at_call 36; ((with_reducible refine (HP9.out _).mono ?_); rintro e w' ⟨rfl, rfl⟩)))
      all_goals first
        | (go_ret3
           exact ret_gv 0 0 3 (by rw [HG.out, HD.out, getF_form (by simp at *; omega)]) rfl rfl rfl)
        | (go_ret3
           exact ret_gv (u + b.toNat * 128 ^ k) (k + 1) 0 (by rw [HG.out, HD.out, getF_end (by simp at *; omega) (by omega)]) (by first | exact SE.out (by omega) (by omega) | exact SN.out (by omega) (by omega)) (by omega) rfl)
        | (go_round
           case rel => exact ⟨k + 1, u + b.toNat % 128 * 128 ^ k, by omega, by omega, by go_num, by rw [SO.out (by omega)], OU.out (by omega), by rw [HG.out, HD.out, getF_on (by simp at *; omega) (by omega)]⟩
           case measure => simp [intOf]; omega)
        | go_ways
    · go_wp2
      all_goals
        go_ret3
        exact ret_gv 0 0 9 (by rw [HG.out, List.drop_eq_nil_of_le (by rw [HL.out]; omega)]; rfl) rfl rfl rfl

theorem one_str (wr : World) (c : UInt8) (x : Int) (hx : x = c.toNat) : (convert 70 9 (.slice (some ⟨wr.heap.size, 0, none⟩) 1 1)).run Try.prog (wr.alloc (.cells #[.int .u8 x] 5)) = .ok (.string ⟨#[c]⟩) (wr.alloc (.cells #[.int .u8 x] 5)) := by
  subst hx
  have := run_convert_bytes_back (P := Try.prog) (wr.alloc (.cells #[.int .u8 c.toNat] 5)) 70 9 5 ⟨wr.heap.size, 0, none⟩ 1 [c] Try.underlying70 Try.underlying5 Try.underlying9
  refine this ?_
  intro j hj
  obtain rfl : j = 0 := by simpa using hj
  simp [Addr.add]
theorem push_list (O : ByteArray) (c : UInt8) : (O ++ ⟨#[c]⟩).data.toList = O.data.toList ++ [c] := by rw [cat_list]
theorem push_size (O : ByteArray) (c : UInt8) : (O ++ ⟨#[c]⟩).size = O.size + 1 := by rw [← list_size, push_list, List.length_append, list_size]; rfl
set_option maxRecDepth 100000 in
set_option maxHeartbeats 1000000 in
theorem refPut_any (v : Nat) (hv : v < 18446744073709551616) (w : World) : Calls Try.prog 28 #[.int .u64 v] w (RetB (.string (putB v)) w) := by
  have HV := Lib.hid hv
  have HB := Lib.hid (Below.refl w.heap.size w)
  clear hv
  go_enter Try.func28, Try.ntmps28
  go_wp2
  go_loopw [0, 3] (fun vv out wr => ∃ (m u : Nat) (O : ByteArray), putL v = O.data.toList ++ putF (m + 1) u ∧ u < 128 ^ (m + 1) ∧ m ≤ 9 ∧ O.size + m ≤ 9 ∧ vv = .int .u64 (u : Int) ∧ u ≤ v ∧ out = .string O ∧ Below w.heap.size w wr) (fun vv _ _ => (intOf vv).toNat)
  case atStart => exact ⟨9, v, ⟨#[]⟩, rfl, Nat.lt_of_lt_of_le HV.out (by decide), by omega, by decide, rfl, Nat.le_refl _, rfl, HB.out⟩
  case round =>
    obtain ⟨m, u, O, hp, hu, hm, ho, rfl, huv, rfl, hb⟩ := hrel
    have HBW := Lib.hid hb
    have HUV := Lib.hid huv
    clear hb huv
    by_cases c : u < 128
    · have HE : Hid (O ++ ⟨#[UInt8.ofNat u]⟩ = putB v) := Lib.hid (bytes_ext (by rw [push_list, putB_list, hp, putF_small c]))
      have hcv := one_str wr (UInt8.ofNat u) u (by rw [small_nat c])
      have ho2 : O.size ≤ 9 := by omega
      clear hp hu
      go_wp2
      go_ret
      exact ⟨by rw [← HE.out]; rfl, HBW.out.alloc HBW.out.size _⟩
    · have c2 : 128 ≤ u := by omega
      have hm1 : ∃ m', m = m' + 1 := by
        cases m with
        | zero => exact absurd (by simpa using hu) c
        | succ m => exact ⟨m, rfl⟩
      obtain ⟨m, rfl⟩ := hm1
      clear c
      obtain ⟨B, hB⟩ : ∃ B, B = UInt8.ofNat (u % 128 + 128) := ⟨_, rfl⟩
      have HE : Hid (putL v = (O ++ ⟨#[B]⟩).data.toList ++ putF (m + 1) (u / 128)) := Lib.hid (by rw [push_list, hp, putF_big c2, hB]; simp)
      have HU2 : Hid (u / 128 < 128 ^ (m + 1)) := Lib.hid (Nat.div_lt_of_lt_mul (by rw [pow_s] at hu; exact hu))
      have hcv := one_str wr B ((u : Int) % 128 + 128) (by rw [hB, big_nat]; rfl)
      have ho2 : O.size ≤ 9 := by omega
      have HS := Lib.hid (push_size O B)
      have hu64 : u < 18446744073709551616 := Nat.lt_of_le_of_lt HUV.out HV.out
      clear hp hu hB
      go_wp2
      go_roundw
      case rel => exact ⟨m, u / 128, _, HE.out, HU2.out, by omega, by rw [HS.out]; omega, by go_num, Nat.le_trans (Nat.div_le_self _ _) HUV.out, rfl, HBW.out.alloc HBW.out.size _⟩
      case measure => simp [intOf]; omega

theorem refGet_ok {D : ByteArray} {x m : Nat} (w : World) (hs : D.size ≤ 2000) (h : getL D.data.toList = (x, m, 0)) : Calls Try.prog 21 #[.string D] w (Ret (.tuple #[.int .u64 (x : Int), .int .i64 (m : Int), .int .i64 0]) w) := by
  have := refGet_any D w hs
  rw [h] at this
  exact this
theorem refGet_form {D : ByteArray} (w : World) (hs : D.size ≤ 2000) (h : getL D.data.toList = (0, 0, 3)) : Calls Try.prog 21 #[.string D] w (Ret (.tuple #[.int .u64 0, .int .i64 0, .int .i64 3]) w) := by
  have := refGet_any D w hs
  rw [h] at this
  exact this
theorem refGet_more {D : ByteArray} (w : World) (hs : D.size ≤ 2000) (h : getL D.data.toList = (0, 0, 9)) : Calls Try.prog 21 #[.string D] w (Ret (.tuple #[.int .u64 0, .int .i64 0, .int .i64 9]) w) := by
  have := refGet_any D w hs
  rw [h] at this
  exact this
theorem zag_odd' {x : Nat} (h : ((x : Int) % 2 == 0) = false) : -1 - ((x : Int) / 2) = zag x := by
  have : (x : Int) % 2 ≠ 0 := by simpa using h
  unfold zag; rw [if_pos (by omega)]; omega
theorem zag_even' {x : Nat} (h : ((x : Int) % 2 == 0) = true) : (x : Int) / 2 = zag x := by
  have : (x : Int) % 2 = 0 := by simpa using h
  unfold zag; rw [if_neg (by omega)]; omega
set_option maxHeartbeats 1000000 in
theorem refGetInt_any (D : ByteArray) (w : World) (hs : D.size ≤ 2000) : Calls Try.prog 23 #[.string D] w (Ret (iv (geti D.data.toList)) w) := by
  rcases getL_kind D.data.toList with ⟨x, m, h⟩ | h | h
  · have HI := Lib.hid (geti_ok h)
    have hx := (getL_only h).2.2.2.2
    have hm := (getL_only h).2.1
    have HG := Lib.hid (refGet_ok w hs h)
    clear h
    cases cc : ((x : Int) % 2 == 0)
    · have HZ := Lib.hid (zag_odd' cc)
      go_enter Try.func23, Try.ntmps23
      go_wp2_with (go_at_call 21; ((with_reducible refine (HG.out).mono ?_); rintro e w' ⟨rfl, rfl⟩))
      go_ret3
      exact ret_iv _ _ _ HI.out HZ.out rfl rfl
    · have HZ := Lib.hid (zag_even' cc)
      go_enter Try.func23, Try.ntmps23
      go_wp2_with (go_at_call 21; ((with_reducible refine (HG.out).mono ?_); rintro e w' ⟨rfl, rfl⟩))
      go_ret3
      exact ret_iv _ _ _ HI.out HZ.out rfl rfl
  · have HI := Lib.hid (geti_bad h (by decide))
    have HG := Lib.hid (refGet_form w hs h)
    clear h
    go_enter Try.func23, Try.ntmps23
    go_wp2_with (go_at_call 21; ((with_reducible refine (HG.out).mono ?_); rintro e w' ⟨rfl, rfl⟩))
    go_ret3
    exact ret_iv _ _ _ HI.out rfl rfl rfl
  · have HI := Lib.hid (geti_bad h (by decide))
    have HG := Lib.hid (refGet_more w hs h)
    clear h
    go_enter Try.func23, Try.ntmps23
    go_wp2_with (go_at_call 21; ((with_reducible refine (HG.out).mono ?_); rintro e w' ⟨rfl, rfl⟩))
    go_ret3
    exact ret_iv _ _ _ HI.out rfl rfl rfl

set_option maxHeartbeats 1000000 in
theorem refGetText_any (D : ByteArray) (most : Int) (h0 : -9223372036854775808 ≤ most) (h1 : most ≤ 9223372036854775807) (w : World) (hs : D.size ≤ 2000) : Calls Try.prog 25 #[.string D, .int .i64 most] w (Ret (tv (getT D most)) w) := by
  by_cases cm : most < 0 ∨ 1000000 < most
  · have HI := Lib.hid (getT_arg (D := D) cm)
    rcases cm with cm | cm
    · go_enter Try.func25, Try.ntmps25
      go_wp2
      go_ret3
      exact ret_tv _ _ _ HI.out rfl rfl rfl
    · have cm2 : 0 ≤ most := by omega
      go_enter Try.func25, Try.ntmps25
      go_wp2
      go_ret3
      exact ret_tv _ _ _ HI.out rfl rfl rfl
  · have HM := Lib.hid cm
    have m0 : 0 ≤ most := by omega
    have m1 : most ≤ 1000000 := by omega
    clear cm
    rcases getL_kind D.data.toList with ⟨x, m, h⟩ | h | h
    · obtain ⟨g1, g2, g3, g4, hx⟩ := getL_only h
      rw [bytes_len] at g3
      have HH := Lib.hid h
      clear g4
      have HG := Lib.hid (refGet_ok w hs h)
      clear h
      by_cases c2 : most < x
      · have HI := Lib.hid (getT_limit HM.out HH.out c2)
        go_enter Try.func25, Try.ntmps25
        go_wp2_with (go_at_call 21; ((with_reducible refine (HG.out).mono ?_); rintro e w' ⟨rfl, rfl⟩))
        go_ret3
        exact ret_tv _ _ _ HI.out rfl rfl rfl
      · by_cases c3 : D.size < m + x
        · have HI := Lib.hid (getT_more HM.out HH.out c2 c3)
          have c2' : (x : Int) ≤ most := by omega
          have c3' : (D.size : Int) - m < x := by omega
          have c4 : (0 : Int) ≤ (D.size : Int) - m := by omega
          clear c2 c3
          go_enter Try.func25, Try.ntmps25
          go_wp2_with (go_at_call 21; ((with_reducible refine (HG.out).mono ?_); rintro e w' ⟨rfl, rfl⟩))
          go_ret3
          exact ret_tv _ _ _ HI.out rfl rfl rfl
        · have HI := Lib.hid (getT_ok HM.out HH.out c2 c3)
          have c2' : (x : Int) ≤ most := by omega
          have c3' : (x : Int) ≤ (D.size : Int) - m := by omega
          have c4 : (0 : Int) ≤ (D.size : Int) - m := by omega
          have c5 : (m : Int) + x ≤ D.size := by omega
          clear c2 c3
          go_enter Try.func25, Try.ntmps25
          go_wp2_with (go_at_call 21; ((with_reducible refine (HG.out).mono ?_); rintro e w' ⟨rfl, rfl⟩))
          all_goals go_ret3
          all_goals exact ret_tv _ _ _ HI.out (by simp; done) (by simp; done) rfl
    · have HI := Lib.hid (getT_bad HM.out h (by decide))
      have HG := Lib.hid (refGet_form w hs h)
      clear h
      go_enter Try.func25, Try.ntmps25
      go_wp2_with (go_at_call 21; ((with_reducible refine (HG.out).mono ?_); rintro e w' ⟨rfl, rfl⟩))
      go_ret3
      exact ret_tv _ _ _ HI.out rfl rfl rfl
    · have HI := Lib.hid (getT_bad HM.out h (by decide))
      have HG := Lib.hid (refGet_more w hs h)
      clear h
      go_enter Try.func25, Try.ntmps25
      go_wp2_with (go_at_call 21; ((with_reducible refine (HG.out).mono ?_); rintro e w' ⟨rfl, rfl⟩))
      go_ret3
      exact ret_tv _ _ _ HI.out rfl rfl rfl

theorem refPut_at (x : Int) (v : Nat) (hx : x = v) (hv : v < 18446744073709551616) (w : World) : Calls Try.prog 28 #[.int .u64 x] w (RetB (.string (putB v)) w) := by
  subst hx; exact refPut_any v hv w
def farS (n : Int) : Int := if n < 0 then -n else n
theorem farS1 {n : Int} (h : n < 0) : farS n = -n := if_pos h
theorem farS2 {n : Int} (h : ¬ n < 0) : farS n = n := if_neg h
theorem ret_bi {b : Bool} {a c : Int} {w : World} (h : a = c) : Ret (.tuple #[.bool b, .int .u64 c]) w (.returned (.tuple #[.bool b, .int .u64 a])) w := by subst h; exact ⟨rfl, rfl⟩
set_option maxHeartbeats 1000000 in
theorem refOf_any (n : Int) (w : World) (h0 : -9223372036854775808 ≤ n) (h1 : n ≤ 9223372036854775807) :
    Calls Try.prog 39 #[.int .i64 n] w (Ret (.tuple #[.bool (decide (n < 0)), .int .u64 (farS n)]) w) := by
  by_cases c : n < 0
  · rw [decide_eq_true c, farS1 c]
    by_cases c2 : n = -9223372036854775808
    · subst c2
      go_enter Try.func39, Try.ntmps39
      go_wp2
      go_ret2
      exact ret_bi rfl
    · have q : (n == -9223372036854775808) = false := by rw [beq_eq_false_iff_ne]; exact c2
      have hlo : -9223372036854775807 ≤ n := by omega
      clear c2
      go_enter Try.func39, Try.ntmps39
      go_wp2
      go_ret2
      exact ret_bi (by first | rfl | (simp only [IntKind.wrap_u64]; omega))
  · rw [decide_eq_false c, farS2 c]
    go_enter Try.func39, Try.ntmps39
    go_wp2
    go_ret2
    exact ret_bi (by first | rfl | (simp only [IntKind.wrap_u64]; omega))
set_option maxHeartbeats 1000000 in
theorem refPutInt_any (n : Int) (h0 : -9223372036854775808 ≤ n) (h1 : n ≤ 9223372036854775807) (w : World) : Calls Try.prog 30 #[.int .i64 n] w (RetB (.string (putB (zig n))) w) := by
  have HZ := Lib.hid (zig_lt h0 h1)
  have HO := Lib.hid (refOf_any n w h0 h1)
  by_cases c : n < 0
  · rw [decide_eq_true c, farS1 c] at HO
    obtain ⟨f, hf⟩ : ∃ f : Int, f = -n := ⟨_, rfl⟩
    rw [← hf] at HO
    have f0 : 1 ≤ f := by omega
    have f1 : f ≤ 9223372036854775808 := by omega
    have HE : Hid (2 * (f - 1) + 1 = (zig n : Nat)) := Lib.hid (by unfold zig; rw [if_pos c]; omega)
    clear hf c h0 h1
    go_enter Try.func30, Try.ntmps30
    go_wp2_with (go_at_call 39; ((with_reducible refine (HO.out).mono ?_); rintro e w' ⟨rfl, rfl⟩))
    refine (refPut_at _ (zig n) ?_ HZ.out _).mono ?_
    · exact HE.out
    rintro e w1 ⟨rfl, hb⟩
    have HB := Lib.hid hb
    clear hb
    go_wp2
    go_ret
    exact ⟨rfl, HB.out⟩
  · rw [decide_eq_false c, farS2 c] at HO
    have HE := Lib.hid (zig_wrap2 n (by omega) h1)
    go_enter Try.func30, Try.ntmps30
    go_wp2_with (go_at_call 39; ((with_reducible refine (HO.out).mono ?_); rintro e w' ⟨rfl, rfl⟩))
    refine (refPut_at _ (zig n) ?_ HZ.out _).mono ?_
    · exact HE.out
    rintro e w1 ⟨rfl, hb⟩
    have HB := Lib.hid hb
    clear hb
    go_wp2
    go_ret
    exact ⟨rfl, HB.out⟩
theorem text_cat (s : ByteArray) : putB s.size ++ s = textB s := bytes_ext (by rw [cat_list, putB_list, textB_list])
set_option maxHeartbeats 1000000 in
theorem refPutText_any (s : ByteArray) (hs : s.size ≤ 2000) (w : World) : Calls Try.prog 32 #[.string s] w (RetB (.string (textB s)) w) := by
  have HP : Hid (Calls Try.prog 28 #[.int .u64 s.size] w (RetB (.string (putB s.size)) w)) := Lib.hid (refPut_any _ (by omega) w)
  have HC := Lib.hid (text_cat s)
  have hl : (putB s.size).size ≤ 10 := by rw [putB_size]; exact (putL_len (by omega)).2.1
  generalize putB s.size = X at *
  go_enter Try.func32, Try.ntmps32
  go_wp2_with fail
  refine HP.out.mono ?_
  rintro e w1 ⟨rfl, hb⟩
  have HB := Lib.hid hb
  clear hb
  go_wp2
  go_ret
  exact ⟨by rw [← HC.out]; rfl, HB.out⟩
end Go.Proofs.Ytbicmnbmkaffeaa
