/- wire.Put, PutText, PutInt, GetInt, GetText. -/
import Derived.Test.YtbicmnbmkaffeaaV5
namespace Go.Proofs.Ytbicmnbmkaffeaa
set_option linter.unusedVariables false
set_option linter.unusedSimpArgs false
open Go.RowKit

def putB (v : Nat) : ByteArray := ⟨(putL v).toArray⟩
theorem putB_list (v : Nat) : (putB v).data.toList = putL v := rfl
theorem putB_size (v : Nat) : (putB v).size = (putL v).length := by show (putL v).toArray.size = _; simp

set_option maxHeartbeats 1000000 in
theorem Put_at (x : Int) (v : Nat) (hx : x = v) (hv : v < 18446744073709551616) (w : World) : Calls Try.prog 27 #[.int .u64 x] w (RetB (.string (putB v)) w) := by
  subst hx
  have HF : Hid (∀ b w1, Wr w.heap.size b [] w1 → w.heap.size ≤ w1.heap.size → Calls Try.prog 37 #[.pointer (some ⟨b, 0, none⟩), .int .u64 v] w1 fun e w' => e = .returned (.tuple #[]) ∧ Wr w.heap.size b (Lib.byteCells (putL v)) w' ∧ Below w.heap.size w1 w') :=
    Lib.hid fun b w1 h hb => by simpa using number_any w.heap.size b [] v hv w1 h (by simp) hb
  have HS : Hid (∀ b w1, Wr w.heap.size b (Lib.byteCells (putL v)) w1 → Calls Try.prog 38 #[.pointer (some ⟨b, 0, none⟩)] w1 fun e w' => e = .returned (.string (putB v)) ∧ Below w.heap.size w1 w') :=
    Lib.hid fun b w1 h => string_some w.heap.size b (putL v) w1 h (fun e => by have := (putL_len hv).1; rw [e] at this; simp at this)
  have H0 := Lib.hid (Lib.fresh_isBuilder 77 5 w)
  have HB := Lib.hid (((Below.refl w.heap.size w).alloc (Nat.le_refl _) (.cells #[.pointer none, .slice none 0 0] 77)))
  clear hv
  go_enter Try.func27, Try.ntmps27
  go_wp2_with fail
  refine (HF.out _ _ H0.out (by simp)).mono ?_
  rintro e w1 ⟨rfl, h1, hb1⟩
  have H1 := Lib.hid h1
  have HB1 := Lib.hid (HB.out.trans hb1)
  clear h1 hb1
  go_wp2_with fail
  refine (HS.out _ _ H1.out).mono ?_
  rintro e w2 ⟨rfl, hb2⟩
  have HB2 := Lib.hid (HB1.out.trans hb2)
  clear hb2
  go_wp2
  go_ret
  exact ⟨rfl, HB2.out⟩

def textB (s : ByteArray) : ByteArray := ⟨(putL s.size ++ s.data.toList).toArray⟩
set_option maxHeartbeats 1000000 in
theorem PutText_any (s : ByteArray) (hs : s.size ≤ 100000000000000) (w : World) : Calls Try.prog 31 #[.string s] w (RetB (.string (textB s)) w) := by
  have HF : Hid (∀ b w1, Wr w.heap.size b [] w1 → w.heap.size ≤ w1.heap.size → Calls Try.prog 37 #[.pointer (some ⟨b, 0, none⟩), .int .u64 s.size] w1 fun e w' => e = .returned (.tuple #[]) ∧ Wr w.heap.size b (Lib.byteCells (putL s.size)) w' ∧ Below w.heap.size w1 w') :=
    Lib.hid fun b w1 h hb => by simpa using number_any w.heap.size b [] s.size (by omega) w1 h (by simp) hb
  have HW : Hid (∀ b w1, Wr w.heap.size b (Lib.byteCells (putL s.size)) w1 → w.heap.size ≤ w1.heap.size → Calls Try.prog 40 #[.pointer (some ⟨b, 0, none⟩), .string s] w1 fun e w' => e = .returned (.tuple #[.int .i64 s.size, .nilIface]) ∧ Wr w.heap.size b (Lib.byteCells (putL s.size ++ s.data.toList)) w' ∧ Below w.heap.size w1 w') :=
    Lib.hid fun b w1 h hb => (writeString_any w.heap.size b (Lib.byteCells (putL s.size)) s w1 h (by rw [Lib.byteCells_length]; have := (putL_len (v := s.size) (by omega)).2.1; omega) hb).mono fun e w' ⟨h1, h2, h3⟩ => ⟨h1, .inr (by rw [Lib.byteCells_append]; exact h2), h3⟩
  have HS : Hid (∀ b w1, Wr w.heap.size b (Lib.byteCells (putL s.size ++ s.data.toList)) w1 → Calls Try.prog 38 #[.pointer (some ⟨b, 0, none⟩)] w1 fun e w' => e = .returned (.string (textB s)) ∧ Below w.heap.size w1 w') :=
    Lib.hid fun b w1 h => string_some w.heap.size b _ w1 h (fun e => by have := (putL_len (v := s.size) (by omega)).1; rw [(List.append_eq_nil_iff.1 e).1] at this; simp at this)
  have H0 := Lib.hid (Lib.fresh_isBuilder 77 5 w)
  have HB := Lib.hid (((Below.refl w.heap.size w).alloc (Nat.le_refl _) (.cells #[.pointer none, .slice none 0 0] 77)))
  go_enter Try.func31, Try.ntmps31
  go_wp2_with fail
  refine (HF.out _ _ H0.out (by simp)).mono ?_
  rintro e w1 ⟨rfl, h1, hb1⟩
  have H1 := Lib.hid h1
  have HB1 := Lib.hid (HB.out.trans hb1)
  clear h1 hb1
  go_wp2_with fail
  refine (HW.out _ _ H1.out HB1.out.size).mono ?_
  rintro e w2 ⟨rfl, h2, hb2⟩
  have H2 := Lib.hid h2
  have HB2 := Lib.hid (HB1.out.trans (hb2))
  clear hb2 h2
  go_wp2_with fail
  refine (HS.out _ _ H2.out).mono ?_
  rintro e w3 ⟨rfl, hb3⟩
  have HB3 := Lib.hid (HB2.out.trans hb3)
  clear hb3
  go_wp2
  go_ret
  exact ⟨rfl, HB3.out⟩

theorem zig_wrap (n : Int) (h0 : -9223372036854775808 ≤ n) (h1 : n < 0) : IntKind.u64.wrap (IntKind.u64.wrap (2 * IntKind.u64.wrap (-IntKind.u64.wrap n)) - 1) = (zig n : Nat) := by
  simp only [IntKind.wrap_u64]
  unfold zig
  rw [if_pos h1]
  omega
theorem zig_wrap2 (n : Int) (h0 : 0 ≤ n) (h1 : n ≤ 9223372036854775807) : 2 * n = (zig n : Nat) := by
  unfold zig
  rw [if_neg (by omega)]
  omega
set_option maxHeartbeats 1000000 in
theorem PutInt_any (n : Int) (h0 : -9223372036854775808 ≤ n) (h1 : n ≤ 9223372036854775807) (w : World) : Calls Try.prog 29 #[.int .i64 n] w (RetB (.string (putB (zig n))) w) := by
  have HZ := Lib.hid (zig_lt h0 h1)
  by_cases c : n < 0
  · have HE := Lib.hid (zig_wrap n h0 c)
    go_enter Try.func29, Try.ntmps29
    go_wp2_with fail
    refine (Put_at _ _ HE.out HZ.out _).mono ?_
    rintro e w1 ⟨rfl, hb⟩
    have HB := Lib.hid hb
    clear hb
    go_wp2
    go_ret
    exact ⟨rfl, HB.out⟩
  · have HE := Lib.hid (zig_wrap2 n (by omega) h1)
    go_enter Try.func29, Try.ntmps29
    go_wp2_with fail
    refine (Put_at _ _ HE.out HZ.out _).mono ?_
    rintro e w1 ⟨rfl, hb⟩
    have HB := Lib.hid hb
    clear hb
    go_wp2
    go_ret
    exact ⟨rfl, HB.out⟩

def iv (r : Int × Nat × Nat) : Value := .tuple #[.int .i64 r.1, .int .i64 (r.2.1 : Int), .int .i64 (r.2.2 : Int)]
theorem ret_iv {a b c : Int} {r : Int × Nat × Nat} {w : World} (x : Int) (y z : Nat) (h : r = (x, y, z)) (ha : a = x) (hb : b = y) (hc : c = z) : Ret (iv r) w (.returned (.tuple #[.int .i64 a, .int .i64 b, .int .i64 c])) w := by
  subst h ha hb hc; exact ⟨rfl, rfl⟩
theorem geti_ok {l : List UInt8} {x m : Nat} (h : getL l = (x, m, 0)) : geti l = (zag x, m, 0) := by unfold geti; rw [h, if_pos rfl]
theorem geti_bad {l : List UInt8} {e : Nat} (h : getL l = (0, 0, e)) (he : e ≠ 0) : geti l = (0, 0, e) := by unfold geti; rw [h, if_neg he]
theorem zag_odd {x : Nat} (h : ((x : Int) % 2 == 1) = true) : -((x : Int) / 2) - 1 = zag x := by
  have : (x : Int) % 2 = 1 := by simpa using h
  unfold zag; rw [if_pos (by omega)]; omega
theorem zag_even {x : Nat} (h : ((x : Int) % 2 == 1) = false) : (x : Int) / 2 = zag x := by
  have : (x : Int) % 2 ≠ 1 := by simpa using h
  unfold zag; rw [if_neg (by omega)]; omega
set_option maxHeartbeats 1000000 in
theorem GetInt_any (D : ByteArray) (w : World) (hs : D.size ≤ maxLen) : Calls Try.prog 22 #[.string D] w (Ret (iv (geti D.data.toList)) w) := by
  rcases getL_kind D.data.toList with ⟨x, m, h⟩ | h | h
  · have HI := Lib.hid (geti_ok h)
    have hx := (getL_only h).2.2.2.2
    have hm := (getL_only h).2.1
    have HG := Lib.hid (Get_ok w hs h)
    clear h
    cases cc : ((x : Int) % 2 == 1)
    · have HZ := Lib.hid (zag_even cc)
      go_enter Try.func22, Try.ntmps22
      go_wp2_with (go_at_call 20; ((with_reducible refine (HG.out).mono ?_); rintro e w' ⟨rfl, rfl⟩))
      go_ret3
      exact ret_iv _ _ _ HI.out HZ.out rfl rfl
    · have HZ := Lib.hid (zag_odd cc)
      go_enter Try.func22, Try.ntmps22
      go_wp2_with (go_at_call 20; ((with_reducible refine (HG.out).mono ?_); rintro e w' ⟨rfl, rfl⟩))
      go_ret3
      exact ret_iv _ _ _ HI.out HZ.out rfl rfl
  · have HI := Lib.hid (geti_bad h (by decide))
    have HG := Lib.hid (Get_form w hs h)
    clear h
    go_enter Try.func22, Try.ntmps22
    go_wp2_with (go_at_call 20; ((with_reducible refine (HG.out).mono ?_); rintro e w' ⟨rfl, rfl⟩))
    go_ret3
    exact ret_iv _ _ _ HI.out rfl rfl rfl
  · have HI := Lib.hid (geti_bad h (by decide))
    have HG := Lib.hid (Get_more w hs h)
    clear h
    go_enter Try.func22, Try.ntmps22
    go_wp2_with (go_at_call 20; ((with_reducible refine (HG.out).mono ?_); rintro e w' ⟨rfl, rfl⟩))
    go_ret3
    exact ret_iv _ _ _ HI.out rfl rfl rfl

def getT (D : ByteArray) (most : Int) : ByteArray × Nat × Nat :=
  if most < 0 ∨ 1000000 < most then (⟨#[]⟩, 0, 1) else if (getL D.data.toList).2.2 ≠ 0 then (⟨#[]⟩, 0, (getL D.data.toList).2.2) else if most < (getL D.data.toList).1 then (⟨#[]⟩, 0, 2)
  else if D.size < (getL D.data.toList).2.1 + (getL D.data.toList).1 then (⟨#[]⟩, 0, 9) else (D.extract (getL D.data.toList).2.1 ((getL D.data.toList).2.1 + (getL D.data.toList).1), (getL D.data.toList).2.1 + (getL D.data.toList).1, 0)
theorem getT_arg {D : ByteArray} {most : Int} (h : most < 0 ∨ 1000000 < most) : getT D most = (⟨#[]⟩, 0, 1) := by unfold getT; rw [if_pos h]
theorem getT_bad {D : ByteArray} {most : Int} {e : Nat} (h : ¬ (most < 0 ∨ 1000000 < most)) (hg : getL D.data.toList = (0, 0, e)) (he : e ≠ 0) : getT D most = (⟨#[]⟩, 0, e) := by unfold getT; rw [if_neg h, hg, if_pos he]
theorem getT_limit {D : ByteArray} {most : Int} {x m : Nat} (h : ¬ (most < 0 ∨ 1000000 < most)) (hg : getL D.data.toList = (x, m, 0)) (h2 : most < x) : getT D most = (⟨#[]⟩, 0, 2) := by
  unfold getT; rw [if_neg h, hg, if_neg (by simp), if_pos h2]
theorem getT_more {D : ByteArray} {most : Int} {x m : Nat} (h : ¬ (most < 0 ∨ 1000000 < most)) (hg : getL D.data.toList = (x, m, 0)) (h2 : ¬ most < x) (h3 : D.size < m + x) : getT D most = (⟨#[]⟩, 0, 9) := by
  unfold getT; rw [if_neg h, hg, if_neg (by simp), if_neg h2, if_pos h3]
theorem getT_ok {D : ByteArray} {most : Int} {x m : Nat} (h : ¬ (most < 0 ∨ 1000000 < most)) (hg : getL D.data.toList = (x, m, 0)) (h2 : ¬ most < x) (h3 : ¬ D.size < m + x) : getT D most = (D.extract m (m + x), m + x, 0) := by
  unfold getT; rw [if_neg h, hg, if_neg (by simp), if_neg h2, if_neg h3]
def tv (r : ByteArray × Nat × Nat) : Value := .tuple #[.string r.1, .int .i64 (r.2.1 : Int), .int .i64 (r.2.2 : Int)]
theorem ret_tv {a : ByteArray} {b c : Int} {r : ByteArray × Nat × Nat} {w : World} (x : ByteArray) (y z : Nat) (h : r = (x, y, z)) (ha : a = x) (hb : b = y) (hc : c = z) : Ret (tv r) w (.returned (.tuple #[.string a, .int .i64 b, .int .i64 c])) w := by
  subst h ha hb hc; exact ⟨rfl, rfl⟩
set_option maxHeartbeats 1000000 in
theorem GetText_any (D : ByteArray) (most : Int) (h0 : -9223372036854775808 ≤ most) (h1 : most ≤ 9223372036854775807) (w : World) (hs : D.size ≤ maxLen) : Calls Try.prog 24 #[.string D, .int .i64 most] w (Ret (tv (getT D most)) w) := by
  have HM0 := Lib.hid hs
  unfold maxLen at hs
  by_cases cm : most < 0 ∨ 1000000 < most
  · have HI := Lib.hid (getT_arg (D := D) cm)
    rcases cm with cm | cm
    · go_enter Try.func24, Try.ntmps24
      go_wp2
      go_ret3
      exact ret_tv _ _ _ HI.out rfl rfl rfl
    · have cm2 : 0 ≤ most := by omega
      go_enter Try.func24, Try.ntmps24
      go_wp2
      go_ret3
      exact ret_tv _ _ _ HI.out rfl rfl rfl
  · have HM := Lib.hid cm
    have m0 : 0 ≤ most := by omega
    have m1 : most ≤ 1000000 := by omega
    clear cm
    rcases getL_kind D.data.toList with ⟨x, m, h⟩ | h | h
    · obtain ⟨g1, g2, g3, g4, hx⟩ := getL_only h
      rw [bytes_len] at g3
      have HH := Lib.hid h
      clear g4
      have HG := Lib.hid (Get_ok w HM0.out h)
      clear h
      by_cases c2 : most < x
      · have HI := Lib.hid (getT_limit HM.out HH.out c2)
        go_enter Try.func24, Try.ntmps24
        go_wp2_with (go_at_call 20; ((with_reducible refine (HG.out).mono ?_); rintro e w' ⟨rfl, rfl⟩))
        go_ret3
        exact ret_tv _ _ _ HI.out rfl rfl rfl
      · by_cases c3 : D.size < m + x
        · have HI := Lib.hid (getT_more HM.out HH.out c2 c3)
          have c2' : (x : Int) ≤ most := by omega
          have c3' : (D.size : Int) - m < x := by omega
          have c4 : (0 : Int) ≤ (D.size : Int) - m := by omega
          clear c2 c3
          go_enter Try.func24, Try.ntmps24
          go_wp2_with (go_at_call 20; ((with_reducible refine (HG.out).mono ?_); rintro e w' ⟨rfl, rfl⟩))
          go_ret3
          exact ret_tv _ _ _ HI.out rfl rfl rfl
        · have HI := Lib.hid (getT_ok HM.out HH.out c2 c3)
          have c2' : (x : Int) ≤ most := by omega
          have c3' : (x : Int) ≤ (D.size : Int) - m := by omega
          have c4 : (0 : Int) ≤ (D.size : Int) - m := by omega
          have c5 : (m : Int) + x ≤ D.size := by omega
          clear c2 c3
          go_enter Try.func24, Try.ntmps24
          go_wp2_with (go_at_call 20; ((with_reducible refine (HG.out).mono ?_); rintro e w' ⟨rfl, rfl⟩))
          go_ways
          all_goals go_ret3
          all_goals exact ret_tv _ _ _ HI.out (by simp; done) (by simp; done) rfl
    · have HI := Lib.hid (getT_bad HM.out h (by decide))
      have HG := Lib.hid (Get_form w HM0.out h)
      clear h
      go_enter Try.func24, Try.ntmps24
      go_wp2_with (go_at_call 20; ((with_reducible refine (HG.out).mono ?_); rintro e w' ⟨rfl, rfl⟩))
      go_ret3
      exact ret_tv _ _ _ HI.out rfl rfl rfl
    · have HI := Lib.hid (getT_bad HM.out h (by decide))
      have HG := Lib.hid (Get_more w HM0.out h)
      clear h
      go_enter Try.func24, Try.ntmps24
      go_wp2_with (go_at_call 20; ((with_reducible refine (HG.out).mono ?_); rintro e w' ⟨rfl, rfl⟩))
      go_ret3
      exact ret_tv _ _ _ HI.out rfl rfl rfl
end Go.Proofs.Ytbicmnbmkaffeaa
