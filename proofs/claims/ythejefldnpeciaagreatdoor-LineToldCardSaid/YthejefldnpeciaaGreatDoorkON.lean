/- num.Value, num.Signed, num.Text. -/
import Derived.Test.YthejefldnpeciaaGreatDoorM0
import Derived.Test.YthejefldnpeciaaGreatDoorS
import Derived.Test.YthejefldnpeciaaGreatDoorShelf
import Derived.Lib.Strings
import Derived.Laws.RangeString
import Derived.Laws.RangeAny
import Derived.Laws.Runes
import Derived.Shelf.Spec.BitsCarry
import Derived.Outline
import Derived.WalkMore
import Derived.ScopeJumps
import Derived.Lib.AppendIntMem
import Derived.WalkSmall
namespace Go.Proofs.YthejefldnpeciaaGreatDoor
set_option linter.unusedVariables false
set_option linter.unusedSimpArgs false
open Go.RowKit Go.Sort


/-- What a byte is worth as a digit; 16, if it is none. -/
def digB (c : UInt8) : Nat := if 48 ≤ c.toNat ∧ c.toNat ≤ 57 then c.toNat - 48 else if 97 ≤ c.toNat ∧ c.toNat ≤ 102 then c.toNat - 87 else if 65 ≤ c.toNat ∧ c.toNat ≤ 70 then c.toNat - 55 else 16
theorem digB_le (c : UInt8) : digB c ≤ 16 := by unfold digB; (repeat' split) <;> omega
theorem digB_ascii {c : UInt8} (h : digB c < 16) : c.toNat < 128 := by
  unfold digB at h
  (repeat' split at h) <;> omega
def digR (r : Nat) : Nat := if 48 ≤ r ∧ r ≤ 57 then r - 48 else if 97 ≤ r ∧ r ≤ 102 then r - 87 else if 65 ≤ r ∧ r ≤ 70 then r - 55 else 16
theorem digR_high {r : Nat} (h : 128 ≤ r) : digR r = 16 := by unfold digR; rw [if_neg (by omega), if_neg (by omega), if_neg (by omega)]
theorem digB_high {c : UInt8} (h : 128 ≤ c.toNat) : digB c = 16 := digR_high h
def okL (b : Nat) (l : List UInt8) : Bool := l.all fun c => decide (digB c < b)
theorem okL_cons (b : Nat) (c : UInt8) (l : List UInt8) : okL b (c :: l) = (decide (digB c < b) && okL b l) := rfl
def vf (b : Nat) : List UInt8 → Nat → Option Nat
  | [], v => some v
  | c :: r, v => if v * b + digB c < 18446744073709551616 then vf b r (v * b + digB c) else none
def valD (b : Nat) (l : List UInt8) : Int × Int :=
  if l = [] ∨ okL b l = false then (0, 3) else match vf b l 0 with
    | some v => ((v : Int), 0)
    | none => (0, 4)
def valS (l : List UInt8) : Int × Int := if Lib.hasPrefix l [48, 120] = true then valD 16 (l.drop 2) else valD 10 l
theorem valD_bad {b : Nat} {l : List UInt8} (h : l = [] ∨ okL b l = false) : valD b l = (0, 3) := by unfold valD; rw [if_pos h]
theorem valD_some {b v : Nat} {l : List UInt8} (h : ¬ (l = [] ∨ okL b l = false)) (e : vf b l 0 = some v) : valD b l = ((v : Int), 0) := by unfold valD; rw [if_neg h, e]
theorem valD_none {b : Nat} {l : List UInt8} (h : ¬ (l = [] ∨ okL b l = false)) (e : vf b l 0 = none) : valD b l = (0, 4) := by unfold valD; rw [if_neg h, e]
theorem vf_step {b v : Nat} {c : UInt8} {r : List UInt8} (h : v * b + digB c < 18446744073709551616) : vf b (c :: r) v = vf b r (v * b + digB c) := by rw [vf, if_pos h]
theorem vf_stop {b v : Nat} {c : UInt8} {r : List UInt8} (h : ¬ v * b + digB c < 18446744073709551616) : vf b (c :: r) v = none := by rw [vf, if_neg h]
theorem okL_drop {b : Nat} {l : List UInt8} (h : okL b l = true) (k : Nat) (hk : k < l.length) : digB l[k] < b := by
  unfold okL at h
  rw [List.all_eq_true] at h
  exact of_decide_eq_true (h _ (List.getElem_mem hk))
theorem bytes_drop (D : ByteArray) (pos : Nat) (h : pos < D.size) : D.data.toList.drop pos = D[pos] :: D.data.toList.drop (pos + 1) := by
  rw [List.drop_eq_getElem_cons (by simpa using h)]; rfl
theorem bytes_len (D : ByteArray) : D.data.toList.length = D.size := Array.length_toList

/-- Signed, Of, Sum. -/
def signS (m : Bool) (v : Int) : Int × Int := if m = true then (if v ≤ 9223372036854775808 then (-v, 0) else (0, 4)) else if v ≤ 9223372036854775807 then (v, 0) else (0, 4)
def farS (n : Int) : Int := if n < 0 then -n else n
def sumS (a n : Int) : Int × Int := if 0 ≤ a + n ∧ a + n ≤ 18446744073709551615 then (a + n, 0) else (0, 4)


set_option maxHeartbeats 400000 in
theorem digit_any (r : Nat) (w : World) (h : r ≤ 2147483647) : Calls Tryz.prog 115 #[.int .i32 r] w (Ret (.int .u64 (digR r : Nat)) w) := by
  have hc : (48 ≤ r ∧ r ≤ 57) ∨ (57 < r ∧ 97 ≤ r ∧ r ≤ 102) ∨ (57 < r ∧ r < 97 ∧ 65 ≤ r ∧ r ≤ 70) ∨ r < 48 ∨ (57 < r ∧ r < 65) ∨ (70 < r ∧ r < 97) ∨ 102 < r := by omega
  rcases hc with ⟨h1, h2⟩ | ⟨h1, h2, h3⟩ | ⟨h1, h2, h3, h4⟩ | h1 | ⟨h1, h2⟩ | ⟨h1, h2⟩ | h1
  · have H : Hid ((digR r : Int) = (r : Int) - 48) := Lib.hid (by unfold digR; rw [if_pos ⟨h1, h2⟩]; omega)
    go_enter Tryz.func115, Tryz.ntmps115
    go_wp2
    go_ret
    exact ret_int (by rw [H.out])
  · have H : Hid ((digR r : Int) = (r : Int) - 97 + 10) := Lib.hid (by unfold digR; rw [if_neg (by omega), if_pos ⟨h2, h3⟩]; omega)
    go_enter Tryz.func115, Tryz.ntmps115
    go_wp2
    go_ret
    exact ret_int (by rw [H.out])
  · have H : Hid ((digR r : Int) = (r : Int) - 65 + 10) := Lib.hid (by unfold digR; rw [if_neg (by omega), if_neg (by omega), if_pos ⟨h3, h4⟩]; omega)
    go_enter Tryz.func115, Tryz.ntmps115
    go_wp2
    go_ret
    exact ret_int (by rw [H.out])
  all_goals
    have H : Hid ((digR r : Int) = 16) := Lib.hid (by unfold digR; rw [if_neg (by omega), if_neg (by omega), if_neg (by omega)]; rfl)
    go_enter Tryz.func115, Tryz.ntmps115
    go_wp2
    go_ret
    exact ret_int (by rw [H.out])
theorem digit_at (D : ByteArray) (pos : Nat) (h : pos < D.size) (w : World) :
    Calls Tryz.prog 115 #[.int .i32 (Utf8.decode D pos).1] w (Ret (.int .u64 (digB D[pos] : Nat)) w) := by
  have e : digR (Utf8.decode D pos).1 = digB D[pos] := by
    by_cases c : (D[pos]'h).toNat < 128
    · rw [decode_ascii D pos h c]; rfl
    · rw [digR_high (decode_high D pos h (by omega)).1, digB_high (by omega)]
  have := digit_any (Utf8.decode D pos).1 w (decode_le D pos)
  rwa [e] at this
theorem width_one (D : ByteArray) (pos : Nat) (h : pos < D.size) (hd : digB D[pos] < 16) : (Utf8.decode D pos).2 = 1 := by
  rw [decode_ascii D pos h (digB_ascii hd)]

set_option maxHeartbeats 400000 in
theorem areDigits_any (D : ByteArray) (b : Nat) (w : World) (hb : b ≤ 16) :
    Calls Tryz.prog 112 #[.string D, .int .u64 b] w (RetB (.bool (okL b D.data.toList && !D.data.toList.isEmpty)) w) := by
  have HL := Lib.hid (bytes_len D)
  go_enter Tryz.func112, Tryz.ntmps112
  go_wp2
  go_loopw [6] (fun _ wr => ∃ pos : Nat, pos ≤ D.size ∧ wr = w.iter D pos ∧ okL b D.data.toList = okL b (D.data.toList.drop pos)) (fun _ wr => D.size - wr.iterPos w.heap.size)
  case atStart => exact ⟨0, by omega, rfl, rfl⟩
  case round =>
    obtain ⟨pos, hp, rfl, hok⟩ := hrel
    have HOK := Lib.hid hok
    clear hok
    by_cases hlt : pos < D.size
    · have hnx : ∀ ty, (Instr.next (.pointer (some ⟨w.heap.size, 0, none⟩)) true ty).run Tryz.prog (w.iter D pos) = _ := fun ty => run_next_any w D pos ty hlt
      have HD : Hid (∀ w, Calls Tryz.prog 115 #[.int .i32 (Utf8.decode D pos).1] w (Ret (.int .u64 (digB D[pos] : Nat)) w)) := Lib.hid fun w => digit_at D pos hlt w
      have HS := Lib.hid (bytes_drop D pos hlt)
      by_cases hd : digB D[pos] < b
      · have HW := Lib.hid (width_one D pos hlt (by omega))
        have HC : Hid (okL b D.data.toList = okL b (D.data.toList.drop (pos + 1))) := Lib.hid (by rw [HOK.out, HS.out, okL_cons, decide_eq_true hd, Bool.true_and])
        generalize digB D[pos] = d at *
        go_wp2_with (first | (go_at_call 115; refine (HD.out _).mono ?_; rintro e w' ⟨rfl, rfl⟩))
        go_roundw
        case rel => exact ⟨pos + 1, by omega, by rw [HW.out], HC.out⟩
        case measure => rw [World.iterPos_iter, HW.out]; simp; omega
      · have HC : Hid (okL b D.data.toList = false) := Lib.hid (by rw [HOK.out, HS.out, okL_cons, decide_eq_false hd, Bool.false_and])
        generalize digB D[pos] = d at *
        go_wp2_with (first | (go_at_call 115; refine (HD.out _).mono ?_; rintro e w' ⟨rfl, rfl⟩))
        go_ret
        exact retB_bool (by rw [HC.out, Bool.false_and]) ((Below.refl _ _).alloc (Nat.le_refl _) _)
    · have hnx : ∀ ty, (Instr.next (.pointer (some ⟨w.heap.size, 0, none⟩)) true ty).run Tryz.prog (w.iter D pos) = _ := fun ty => run_next_end w D pos ty hlt
      have HC : Hid (okL b D.data.toList = true) := Lib.hid (by rw [HOK.out, List.drop_eq_nil_of_le (by rw [HL.out]; omega)]; rfl)
      go_wp2
      go_ret
      refine retB_bool ?_ ((Below.refl _ _).alloc (Nat.le_refl _) _)
      rw [HC.out, Bool.true_and, Lib.toList_data]

theorem mul_at (v b : Nat) (B : Int) (hB : B = b) (w : World) (hv : v < 18446744073709551616) (hb : b ≤ 16) :
    Calls Tryz.prog 113 #[.int .u64 v, .int .u64 B] w (Ret (.tuple #[.int .u64 ((v * b / 18446744073709551616 : Nat) : Int), .int .u64 ((v * b % 18446744073709551616 : Nat) : Int)]) w) := by
  subst hB
  exact (Tryz.bits_Mul64 v b hv (by omega) w).mono fun e w' h => ⟨h.1, h.2.symm⟩
theorem add_at (x y : Nat) (w : World) : (callFunc 114 #[.int .u64 x, .int .u64 y, .int .u64 0]).run Tryz.prog w =
    .ok (.value (.tuple #[.int .u64 (((x + y) % 18446744073709551616 : Nat) : Int), .int .u64 (((x + y) / 18446744073709551616 : Nat) : Int)])) w := by
  rw [run_callFunc_extern Tryz.func114 (by kernel_rfl) (by kernel_rfl) (by kernel_rfl) (e := add64Entry) (by kernel_rfl), run_add64 x y 0 (by omega) (by omega) (by omega) (by omega)]
  simp only [Result.andThen]
  congr 5 <;> omega


theorem nRetB_two {k l : IntKind} {a b : Int} {p : Int × Int} {w w' : World} (h : p = (a, b)) (hb : Below w.heap.size w w') : RetB (two k l p) w (.returned (.tuple #[.int k a, .int l b])) w' := by subst h; exact ⟨rfl, hb⟩
theorem trim_list (l : List UInt8) (h : Lib.hasPrefix l [48, 120] = true) : Lib.trimPrefix l [48, 120] = l.drop 2 := by
  unfold Lib.trimPrefix
  first | (rw [if_pos h]; rfl) | simp [h]
/-- What stands where Value leaves its loop by a jump. -/
def Jmp (w : World) (a : Act) (w' : World) : Prop := Below w.heap.size w w' ∧ ∃ (u0 u1 u2 u3 u4 u5 u6 u7 u8 u9 u10 u11 u12 u13 u14 u15 u16 u17 u18 u19 u20 u21 u22 u23 u24 u25 u26 u27 u28 u29 u30 u31 u32 u33 u34 u35 u36 u37 u38 u39 u40 u41 u42 u43 u44 u45 u46 u47 u48 u49 u50 u51 u52 : Value), a = { tmps := #[u0, u1, u2, u3, u4, u5, u6, u7, u8, u9, u10, u11, u12, u13, u14, u15, u16, u17, u18, u19, u20, u21, u22, u23, u24, u25, u26, u27, u28, u29, u30, u31, u32, u33, u34, u35, u36, u37, u38, u39, u40, u41, u42, u43, u44, u45, u46, u47, u48, u49, u50, u51, u52], defers := [] }
def VRel (b : Nat) (D : ByteArray) (o : Option Nat) (w1 : World) (x : Value) (wr : World) : Prop :=
  ∃ pos n : Nat, pos ≤ D.size ∧ wr = w1.iter D pos ∧ x = .int .u64 n ∧ n < 18446744073709551616 ∧ vf b (D.data.toList.drop pos) n = o

set_option maxHeartbeats 2000000 in
theorem Value_16 (s D E : ByteArray) (w : World) (hE : D = E)
    (hC : ∀ w, Calls Tryz.prog 101 #[.string s, .string ⟨#[48, 120]⟩] w (Ret (.tuple #[.string E, .bool true]) w)) :
    Calls Tryz.prog 100 #[.string s] w (RetB (two .u64 .i64 (valD 16 D.data.toList)) w) := by
  subst hE
  have HC := Lib.hid hC
  clear hC
  have HA : Hid (∀ w, Calls Tryz.prog 112 #[.string D, .int .u64 16] w (RetB (.bool (okL 16 D.data.toList && !D.data.toList.isEmpty)) w)) := Lib.hid fun w => areDigits_any D 16 w (by omega)
  have HLen := Lib.hid (bytes_len D)
  by_cases hbad : D.data.toList = [] ∨ okL 16 D.data.toList = false
  · have HV := Lib.hid (valD_bad hbad)
    have hv : (okL 16 D.data.toList && !D.data.toList.isEmpty) = false := by rcases hbad with h | h <;> rw [h] <;> simp
    rw [hv] at HA
    clear hbad hv
    go_enter Tryz.func100, Tryz.ntmps100
    go_wp2
    go_step3
    go_wp2_with (first | (go_at_call 101; ((with_reducible refine (HC.out _).mono ?_); rintro e w' ⟨rfl, rfl⟩)))
    refine (HA.out _).mono ?_
    rintro e w1 ⟨rfl, hb1⟩
    have HB := Lib.hid hb1
    clear hb1
    go_wp2
    rw [Exit.noGoto_ret]
    go_ret2
    exact nRetB_two (by rw [HV.out]) HB.out
  have hv : (okL 16 D.data.toList && !D.data.toList.isEmpty) = true := by
    have h1 : okL 16 D.data.toList = true := by cases h : okL 16 D.data.toList <;> simp [h] at hbad ⊢
    have h2 : D.data.toList.isEmpty = false := by rw [List.isEmpty_eq_false_iff]; exact fun h => hbad (.inl h)
    rw [h1, h2]; rfl
  have HOK : Hid (okL 16 D.data.toList = true) := Lib.hid (by simp at hv; exact hv.1)
  rw [hv] at HA
  have HG := Lib.hid hbad
  clear hbad hv
  cases ho : vf 16 D.data.toList 0 with
  | some z =>
    have HV := Lib.hid (valD_some HG.out ho)
    have HO := Lib.hid ho
    clear ho
    go_enter Tryz.func100, Tryz.ntmps100
    go_wp2
    go_step3
    go_wp2_with (first | (go_at_call 101; ((with_reducible refine (HC.out _).mono ?_); rintro e w' ⟨rfl, rfl⟩)))
    refine (HA.out _).mono ?_
    rintro e w1 ⟨rfl, hb1⟩
    have HB := Lib.hid hb1
    clear hb1
    go_wp2
    go_loopw [8, 10, 11, 12, 13, 14] (fun x _ _ _ _ _ wr => VRel 16 D (some z) w1 x wr) (fun _ _ _ _ _ _ wr => D.size - wr.iterPos w1.heap.size)
    case atStart => exact ⟨0, 0, by omega, rfl, rfl, by omega, HO.out⟩
    case round =>
      obtain ⟨pos, n, hp, rfl, rfl, hn, hvf⟩ := hrel
      have HF := Lib.hid hvf
      clear hvf
      by_cases hlt : pos < D.size
      · have hnx : ∀ ty, (Instr.next (.pointer (some ⟨w1.heap.size, 0, none⟩)) true ty).run Tryz.prog (w1.iter D pos) = _ := fun ty => run_next_any w1 D pos ty hlt
        have hdb : digB D[pos] < 16 := okL_drop HOK.out pos (by rw [HLen.out]; exact hlt)
        have HW := Lib.hid (width_one D pos hlt (by omega))
        have HD : Hid (∀ w, Calls Tryz.prog 115 #[.int .i32 (Utf8.decode D pos).1] w (Ret (.int .u64 (digB D[pos] : Nat)) w)) := Lib.hid fun w => digit_at D pos hlt w
        have HS := Lib.hid (bytes_drop D pos hlt)
        have hst : n * 16 + digB D[pos] < 18446744073709551616 := by
          apply Classical.byContradiction
          intro h
          have h2 := HF.out
          rw [HS.out, vf_stop h] at h2
          cases h2
        have HF2 : Hid (vf 16 (D.data.toList.drop (pos + 1)) (n * 16 + digB D[pos]) = some z) := Lib.hid (by have h2 := HF.out; rwa [HS.out, vf_step hst] at h2)
        have HM : Hid (∀ w, Calls Tryz.prog 113 #[.int .u64 n, .int .u64 16] w (Ret (.tuple #[.int .u64 0, .int .u64 ((n * 16 : Nat) : Int)]) w)) := Lib.hid fun w => by
          have h := mul_at n 16 16 rfl w hn (by omega)
          rw [Nat.div_eq_of_lt (by omega), Nat.mod_eq_of_lt (by omega)] at h
          exact h
        have hadd : ∀ w, (callFunc 114 #[.int .u64 ((n * 16 : Nat) : Int), .int .u64 (digB D[pos] : Nat), .int .u64 0]).run Tryz.prog w = .ok (.value (.tuple #[.int .u64 ((n * 16 + digB D[pos] : Nat) : Int), .int .u64 0])) w := fun w => by
          have h := add_at (n * 16) (digB D[pos]) w
          rw [Nat.div_eq_of_lt hst, Nat.mod_eq_of_lt hst] at h
          exact h
        generalize digB D[pos] = d at *
        generalize n * 16 + d = q at *
        generalize n * 16 = p at *
        go_wp2_with (first | (go_at_call 113; ((with_reducible refine (HM.out _).mono ?_); rintro e w' ⟨rfl, rfl⟩)) | (go_at_call 115; ((with_reducible refine (HD.out _).mono ?_); rintro e w' ⟨rfl, rfl⟩)))
        go_roundw
        case rel => exact ⟨pos + 1, q, by omega, by rw [HW.out], rfl, hst, HF2.out⟩
        case measure => rw [World.iterPos_iter, HW.out]; simp; omega
      · have hnx : ∀ ty, (Instr.next (.pointer (some ⟨w1.heap.size, 0, none⟩)) true ty).run Tryz.prog (w1.iter D pos) = _ := fun ty => run_next_end w1 D pos ty hlt
        have HE : Hid (n = z) := Lib.hid (by
          have h2 := HF.out
          rw [List.drop_eq_nil_of_le (by rw [HLen.out]; omega)] at h2
          exact Option.some.inj h2)
        go_wp2
        rw [Exit.noGoto_ret]
        go_ret2
        exact nRetB_two (by rw [HV.out, HE.out]) (HB.out.alloc HB.out.size _)
  | none =>
    have HV := Lib.hid (valD_none HG.out ho)
    have HO := Lib.hid ho
    clear ho
    go_enter Tryz.func100, Tryz.ntmps100
    go_wp2
    refine wp_scope_jumps 0 (fun a' w' => Jmp w a' w') (fun _ _ => 0) rfl ?_ ?_
    · go_wp2_with (first | (go_at_call 101; ((with_reducible refine (HC.out _).mono ?_); rintro e w' ⟨rfl, rfl⟩)))
      refine (HA.out _).mono ?_
      rintro e w1 ⟨rfl, hb1⟩
      have HB := Lib.hid hb1
      clear hb1
      go_wp2
      go_loopw [8, 10, 11, 12, 13, 14] (fun x _ _ _ _ _ wr => VRel 16 D none w1 x wr) (fun _ _ _ _ _ _ wr => D.size - wr.iterPos w1.heap.size)
      case atStart => exact ⟨0, 0, by omega, rfl, rfl, by omega, HO.out⟩
      case round =>
        obtain ⟨pos, n, hp, rfl, rfl, hn, hvf⟩ := hrel
        have HF := Lib.hid hvf
        clear hvf
        by_cases hlt : pos < D.size
        · have hnx : ∀ ty, (Instr.next (.pointer (some ⟨w1.heap.size, 0, none⟩)) true ty).run Tryz.prog (w1.iter D pos) = _ := fun ty => run_next_any w1 D pos ty hlt
          have hdb : digB D[pos] < 16 := okL_drop HOK.out pos (by rw [HLen.out]; exact hlt)
          have HW := Lib.hid (width_one D pos hlt (by omega))
          have HD : Hid (∀ w, Calls Tryz.prog 115 #[.int .i32 (Utf8.decode D pos).1] w (Ret (.int .u64 (digB D[pos] : Nat)) w)) := Lib.hid fun w => digit_at D pos hlt w
          have HS := Lib.hid (bytes_drop D pos hlt)
          by_cases hst : n * 16 + digB D[pos] < 18446744073709551616
          · have HF2 : Hid (vf 16 (D.data.toList.drop (pos + 1)) (n * 16 + digB D[pos]) = none) := Lib.hid (by have h2 := HF.out; rwa [HS.out, vf_step hst] at h2)
            have HM : Hid (∀ w, Calls Tryz.prog 113 #[.int .u64 n, .int .u64 16] w (Ret (.tuple #[.int .u64 0, .int .u64 ((n * 16 : Nat) : Int)]) w)) := Lib.hid fun w => by
              have h := mul_at n 16 16 rfl w hn (by omega)
              rw [Nat.div_eq_of_lt (by omega), Nat.mod_eq_of_lt (by omega)] at h
              exact h
            have hadd : ∀ w, (callFunc 114 #[.int .u64 ((n * 16 : Nat) : Int), .int .u64 (digB D[pos] : Nat), .int .u64 0]).run Tryz.prog w = .ok (.value (.tuple #[.int .u64 ((n * 16 + digB D[pos] : Nat) : Int), .int .u64 0])) w := fun w => by
              have h := add_at (n * 16) (digB D[pos]) w
              rw [Nat.div_eq_of_lt hst, Nat.mod_eq_of_lt hst] at h
              exact h
            generalize digB D[pos] = d at *
            generalize n * 16 + d = q at *
            generalize n * 16 = p at *
            go_wp2_with (first | (go_at_call 113; ((with_reducible refine (HM.out _).mono ?_); rintro e w' ⟨rfl, rfl⟩)) | (go_at_call 115; ((with_reducible refine (HD.out _).mono ?_); rintro e w' ⟨rfl, rfl⟩)))
            go_roundw
            case rel => exact ⟨pos + 1, q, by omega, by rw [HW.out], rfl, hst, HF2.out⟩
            case measure => rw [World.iterPos_iter, HW.out]; simp; omega
          · have HM : Hid (∀ w, Calls Tryz.prog 113 #[.int .u64 n, .int .u64 16] w (Ret (.tuple #[.int .u64 ((n * 16 / 18446744073709551616 : Nat) : Int), .int .u64 ((n * 16 % 18446744073709551616 : Nat) : Int)]) w)) := Lib.hid fun w => mul_at n 16 16 rfl w hn (by omega)
            have hadd : ∀ w, (callFunc 114 #[.int .u64 ((n * 16 % 18446744073709551616 : Nat) : Int), .int .u64 (digB D[pos] : Nat), .int .u64 0]).run Tryz.prog w = _ := fun w => add_at _ _ w
            have hor : n * 16 / 18446744073709551616 ≠ 0 ∨ n * 16 / 18446744073709551616 = 0 ∧ (n * 16 % 18446744073709551616 + digB D[pos]) / 18446744073709551616 = 1 := by omega
            clear hst hn
            generalize digB D[pos] = d at *
            generalize (n * 16 % 18446744073709551616 + d) / 18446744073709551616 = cy at *
            generalize (n * 16 % 18446744073709551616 + d) % 18446744073709551616 = sm at *
            generalize n * 16 % 18446744073709551616 = lo at *
            generalize n * 16 / 18446744073709551616 = hi at *
            rcases hor with h1 | ⟨rfl, rfl⟩
            · have q1 : ((hi : Int) != 0) = true := by rw [bne_iff_ne]; omega
              clear h1
              go_wp2_with (first | (go_at_call 113; ((with_reducible refine (HM.out _).mono ?_); rintro e w' ⟨rfl, rfl⟩)) | (go_at_call 115; ((with_reducible refine (HD.out _).mono ?_); rintro e w' ⟨rfl, rfl⟩)))
              go_step3
              exact ⟨rfl, HB.out.alloc HB.out.size _, _, _, _, _, _, _, _, _, _, _, _, _, _, _, _, _, _, _, _, _, _, _, _, _, _, _, _, _, _, _, _, _, _, _, _, _, _, _, _, _, _, _, _, _, _, _, _, _, _, _, _, _, _, rfl⟩
            · go_wp2_with (first | (go_at_call 113; ((with_reducible refine (HM.out _).mono ?_); rintro e w' ⟨rfl, rfl⟩)) | (go_at_call 115; ((with_reducible refine (HD.out _).mono ?_); rintro e w' ⟨rfl, rfl⟩)))
              go_step3
              exact ⟨rfl, HB.out.alloc HB.out.size _, _, _, _, _, _, _, _, _, _, _, _, _, _, _, _, _, _, _, _, _, _, _, _, _, _, _, _, _, _, _, _, _, _, _, _, _, _, _, _, _, _, _, _, _, _, _, _, _, _, _, _, _, _, rfl⟩
        · exfalso
          have h2 := HF.out
          rw [List.drop_eq_nil_of_le (by rw [HLen.out]; omega)] at h2
          cases h2
    · rintro a' w' ⟨hb, u0, u1, u2, u3, u4, u5, u6, u7, u8, u9, u10, u11, u12, u13, u14, u15, u16, u17, u18, u19, u20, u21, u22, u23, u24, u25, u26, u27, u28, u29, u30, u31, u32, u33, u34, u35, u36, u37, u38, u39, u40, u41, u42, u43, u44, u45, u46, u47, u48, u49, u50, u51, u52, rfl⟩
      have HB := Lib.hid hb
      clear hb
      go_wp2
      simp only [Exit.jump]
      go_ret2
      exact nRetB_two (by rw [HV.out]) HB.out

set_option maxHeartbeats 2000000 in
theorem Value_10 (s D E : ByteArray) (w : World) (hE : D = s)
    (hC : ∀ w, Calls Tryz.prog 101 #[.string s, .string ⟨#[48, 120]⟩] w (Ret (.tuple #[.string E, .bool false]) w)) :
    Calls Tryz.prog 100 #[.string s] w (RetB (two .u64 .i64 (valD 10 D.data.toList)) w) := by
  subst hE
  have HC := Lib.hid hC
  clear hC
  have HA : Hid (∀ w, Calls Tryz.prog 112 #[.string D, .int .u64 10] w (RetB (.bool (okL 10 D.data.toList && !D.data.toList.isEmpty)) w)) := Lib.hid fun w => areDigits_any D 10 w (by omega)
  have HLen := Lib.hid (bytes_len D)
  by_cases hbad : D.data.toList = [] ∨ okL 10 D.data.toList = false
  · have HV := Lib.hid (valD_bad hbad)
    have hv : (okL 10 D.data.toList && !D.data.toList.isEmpty) = false := by rcases hbad with h | h <;> rw [h] <;> simp
    rw [hv] at HA
    clear hbad hv
    go_enter Tryz.func100, Tryz.ntmps100
    go_wp2
    go_step3
    go_wp2_with (first | (go_at_call 101; ((with_reducible refine (HC.out _).mono ?_); rintro e w' ⟨rfl, rfl⟩)))
    refine (HA.out _).mono ?_
    rintro e w1 ⟨rfl, hb1⟩
    have HB := Lib.hid hb1
    clear hb1
    go_wp2
    rw [Exit.noGoto_ret]
    go_ret2
    exact nRetB_two (by rw [HV.out]) HB.out
  have hv : (okL 10 D.data.toList && !D.data.toList.isEmpty) = true := by
    have h1 : okL 10 D.data.toList = true := by cases h : okL 10 D.data.toList <;> simp [h] at hbad ⊢
    have h2 : D.data.toList.isEmpty = false := by rw [List.isEmpty_eq_false_iff]; exact fun h => hbad (.inl h)
    rw [h1, h2]; rfl
  have HOK : Hid (okL 10 D.data.toList = true) := Lib.hid (by simp at hv; exact hv.1)
  rw [hv] at HA
  have HG := Lib.hid hbad
  clear hbad hv
  cases ho : vf 10 D.data.toList 0 with
  | some z =>
    have HV := Lib.hid (valD_some HG.out ho)
    have HO := Lib.hid ho
    clear ho
    go_enter Tryz.func100, Tryz.ntmps100
    go_wp2
    go_step3
    go_wp2_with (first | (go_at_call 101; ((with_reducible refine (HC.out _).mono ?_); rintro e w' ⟨rfl, rfl⟩)))
    refine (HA.out _).mono ?_
    rintro e w1 ⟨rfl, hb1⟩
    have HB := Lib.hid hb1
    clear hb1
    go_wp2
    go_loopw [8, 10, 11, 12, 13, 14] (fun x _ _ _ _ _ wr => VRel 10 D (some z) w1 x wr) (fun _ _ _ _ _ _ wr => D.size - wr.iterPos w1.heap.size)
    case atStart => exact ⟨0, 0, by omega, rfl, rfl, by omega, HO.out⟩
    case round =>
      obtain ⟨pos, n, hp, rfl, rfl, hn, hvf⟩ := hrel
      have HF := Lib.hid hvf
      clear hvf
      by_cases hlt : pos < D.size
      · have hnx : ∀ ty, (Instr.next (.pointer (some ⟨w1.heap.size, 0, none⟩)) true ty).run Tryz.prog (w1.iter D pos) = _ := fun ty => run_next_any w1 D pos ty hlt
        have hdb : digB D[pos] < 10 := okL_drop HOK.out pos (by rw [HLen.out]; exact hlt)
        have HW := Lib.hid (width_one D pos hlt (by omega))
        have HD : Hid (∀ w, Calls Tryz.prog 115 #[.int .i32 (Utf8.decode D pos).1] w (Ret (.int .u64 (digB D[pos] : Nat)) w)) := Lib.hid fun w => digit_at D pos hlt w
        have HS := Lib.hid (bytes_drop D pos hlt)
        have hst : n * 10 + digB D[pos] < 18446744073709551616 := by
          apply Classical.byContradiction
          intro h
          have h2 := HF.out
          rw [HS.out, vf_stop h] at h2
          cases h2
        have HF2 : Hid (vf 10 (D.data.toList.drop (pos + 1)) (n * 10 + digB D[pos]) = some z) := Lib.hid (by have h2 := HF.out; rwa [HS.out, vf_step hst] at h2)
        have HM : Hid (∀ w, Calls Tryz.prog 113 #[.int .u64 n, .int .u64 10] w (Ret (.tuple #[.int .u64 0, .int .u64 ((n * 10 : Nat) : Int)]) w)) := Lib.hid fun w => by
          have h := mul_at n 10 10 rfl w hn (by omega)
          rw [Nat.div_eq_of_lt (by omega), Nat.mod_eq_of_lt (by omega)] at h
          exact h
        have hadd : ∀ w, (callFunc 114 #[.int .u64 ((n * 10 : Nat) : Int), .int .u64 (digB D[pos] : Nat), .int .u64 0]).run Tryz.prog w = .ok (.value (.tuple #[.int .u64 ((n * 10 + digB D[pos] : Nat) : Int), .int .u64 0])) w := fun w => by
          have h := add_at (n * 10) (digB D[pos]) w
          rw [Nat.div_eq_of_lt hst, Nat.mod_eq_of_lt hst] at h
          exact h
        generalize digB D[pos] = d at *
        generalize n * 10 + d = q at *
        generalize n * 10 = p at *
        go_wp2_with (first | (go_at_call 113; ((with_reducible refine (HM.out _).mono ?_); rintro e w' ⟨rfl, rfl⟩)) | (go_at_call 115; ((with_reducible refine (HD.out _).mono ?_); rintro e w' ⟨rfl, rfl⟩)))
        go_roundw
        case rel => exact ⟨pos + 1, q, by omega, by rw [HW.out], rfl, hst, HF2.out⟩
        case measure => rw [World.iterPos_iter, HW.out]; simp; omega
      · have hnx : ∀ ty, (Instr.next (.pointer (some ⟨w1.heap.size, 0, none⟩)) true ty).run Tryz.prog (w1.iter D pos) = _ := fun ty => run_next_end w1 D pos ty hlt
        have HE : Hid (n = z) := Lib.hid (by
          have h2 := HF.out
          rw [List.drop_eq_nil_of_le (by rw [HLen.out]; omega)] at h2
          exact Option.some.inj h2)
        go_wp2
        rw [Exit.noGoto_ret]
        go_ret2
        exact nRetB_two (by rw [HV.out, HE.out]) (HB.out.alloc HB.out.size _)
  | none =>
    have HV := Lib.hid (valD_none HG.out ho)
    have HO := Lib.hid ho
    clear ho
    go_enter Tryz.func100, Tryz.ntmps100
    go_wp2
    refine wp_scope_jumps 0 (fun a' w' => Jmp w a' w') (fun _ _ => 0) rfl ?_ ?_
    · go_wp2_with (first | (go_at_call 101; ((with_reducible refine (HC.out _).mono ?_); rintro e w' ⟨rfl, rfl⟩)))
      refine (HA.out _).mono ?_
      rintro e w1 ⟨rfl, hb1⟩
      have HB := Lib.hid hb1
      clear hb1
      go_wp2
      go_loopw [8, 10, 11, 12, 13, 14] (fun x _ _ _ _ _ wr => VRel 10 D none w1 x wr) (fun _ _ _ _ _ _ wr => D.size - wr.iterPos w1.heap.size)
      case atStart => exact ⟨0, 0, by omega, rfl, rfl, by omega, HO.out⟩
      case round =>
        obtain ⟨pos, n, hp, rfl, rfl, hn, hvf⟩ := hrel
        have HF := Lib.hid hvf
        clear hvf
        by_cases hlt : pos < D.size
        · have hnx : ∀ ty, (Instr.next (.pointer (some ⟨w1.heap.size, 0, none⟩)) true ty).run Tryz.prog (w1.iter D pos) = _ := fun ty => run_next_any w1 D pos ty hlt
          have hdb : digB D[pos] < 10 := okL_drop HOK.out pos (by rw [HLen.out]; exact hlt)
          have HW := Lib.hid (width_one D pos hlt (by omega))
          have HD : Hid (∀ w, Calls Tryz.prog 115 #[.int .i32 (Utf8.decode D pos).1] w (Ret (.int .u64 (digB D[pos] : Nat)) w)) := Lib.hid fun w => digit_at D pos hlt w
          have HS := Lib.hid (bytes_drop D pos hlt)
          by_cases hst : n * 10 + digB D[pos] < 18446744073709551616
          · have HF2 : Hid (vf 10 (D.data.toList.drop (pos + 1)) (n * 10 + digB D[pos]) = none) := Lib.hid (by have h2 := HF.out; rwa [HS.out, vf_step hst] at h2)
            have HM : Hid (∀ w, Calls Tryz.prog 113 #[.int .u64 n, .int .u64 10] w (Ret (.tuple #[.int .u64 0, .int .u64 ((n * 10 : Nat) : Int)]) w)) := Lib.hid fun w => by
              have h := mul_at n 10 10 rfl w hn (by omega)
              rw [Nat.div_eq_of_lt (by omega), Nat.mod_eq_of_lt (by omega)] at h
              exact h
            have hadd : ∀ w, (callFunc 114 #[.int .u64 ((n * 10 : Nat) : Int), .int .u64 (digB D[pos] : Nat), .int .u64 0]).run Tryz.prog w = .ok (.value (.tuple #[.int .u64 ((n * 10 + digB D[pos] : Nat) : Int), .int .u64 0])) w := fun w => by
              have h := add_at (n * 10) (digB D[pos]) w
              rw [Nat.div_eq_of_lt hst, Nat.mod_eq_of_lt hst] at h
              exact h
            generalize digB D[pos] = d at *
            generalize n * 10 + d = q at *
            generalize n * 10 = p at *
            go_wp2_with (first | (go_at_call 113; ((with_reducible refine (HM.out _).mono ?_); rintro e w' ⟨rfl, rfl⟩)) | (go_at_call 115; ((with_reducible refine (HD.out _).mono ?_); rintro e w' ⟨rfl, rfl⟩)))
            go_roundw
            case rel => exact ⟨pos + 1, q, by omega, by rw [HW.out], rfl, hst, HF2.out⟩
            case measure => rw [World.iterPos_iter, HW.out]; simp; omega
          · have HM : Hid (∀ w, Calls Tryz.prog 113 #[.int .u64 n, .int .u64 10] w (Ret (.tuple #[.int .u64 ((n * 10 / 18446744073709551616 : Nat) : Int), .int .u64 ((n * 10 % 18446744073709551616 : Nat) : Int)]) w)) := Lib.hid fun w => mul_at n 10 10 rfl w hn (by omega)
            have hadd : ∀ w, (callFunc 114 #[.int .u64 ((n * 10 % 18446744073709551616 : Nat) : Int), .int .u64 (digB D[pos] : Nat), .int .u64 0]).run Tryz.prog w = _ := fun w => add_at _ _ w
            have hor : n * 10 / 18446744073709551616 ≠ 0 ∨ n * 10 / 18446744073709551616 = 0 ∧ (n * 10 % 18446744073709551616 + digB D[pos]) / 18446744073709551616 = 1 := by omega
            clear hst hn
            generalize digB D[pos] = d at *
            generalize (n * 10 % 18446744073709551616 + d) / 18446744073709551616 = cy at *
            generalize (n * 10 % 18446744073709551616 + d) % 18446744073709551616 = sm at *
            generalize n * 10 % 18446744073709551616 = lo at *
            generalize n * 10 / 18446744073709551616 = hi at *
            rcases hor with h1 | ⟨rfl, rfl⟩
            · have q1 : ((hi : Int) != 0) = true := by rw [bne_iff_ne]; omega
              clear h1
              go_wp2_with (first | (go_at_call 113; ((with_reducible refine (HM.out _).mono ?_); rintro e w' ⟨rfl, rfl⟩)) | (go_at_call 115; ((with_reducible refine (HD.out _).mono ?_); rintro e w' ⟨rfl, rfl⟩)))
              go_step3
              exact ⟨rfl, HB.out.alloc HB.out.size _, _, _, _, _, _, _, _, _, _, _, _, _, _, _, _, _, _, _, _, _, _, _, _, _, _, _, _, _, _, _, _, _, _, _, _, _, _, _, _, _, _, _, _, _, _, _, _, _, _, _, _, _, _, rfl⟩
            · go_wp2_with (first | (go_at_call 113; ((with_reducible refine (HM.out _).mono ?_); rintro e w' ⟨rfl, rfl⟩)) | (go_at_call 115; ((with_reducible refine (HD.out _).mono ?_); rintro e w' ⟨rfl, rfl⟩)))
              go_step3
              exact ⟨rfl, HB.out.alloc HB.out.size _, _, _, _, _, _, _, _, _, _, _, _, _, _, _, _, _, _, _, _, _, _, _, _, _, _, _, _, _, _, _, _, _, _, _, _, _, _, _, _, _, _, _, _, _, _, _, _, _, _, _, _, _, _, rfl⟩
        · exfalso
          have h2 := HF.out
          rw [List.drop_eq_nil_of_le (by rw [HLen.out]; omega)] at h2
          cases h2
    · rintro a' w' ⟨hb, u0, u1, u2, u3, u4, u5, u6, u7, u8, u9, u10, u11, u12, u13, u14, u15, u16, u17, u18, u19, u20, u21, u22, u23, u24, u25, u26, u27, u28, u29, u30, u31, u32, u33, u34, u35, u36, u37, u38, u39, u40, u41, u42, u43, u44, u45, u46, u47, u48, u49, u50, u51, u52, rfl⟩
      have HB := Lib.hid hb
      clear hb
      go_wp2
      simp only [Exit.jump]
      go_ret2
      exact nRetB_two (by rw [HV.out]) HB.out

theorem NValue_any (s : ByteArray) (w : World) :
    Calls Tryz.prog 100 #[.string s] w (RetB (two .u64 .i64 (valS s.data.toList)) w) := by
  by_cases hp : Lib.hasPrefix s.data.toList [48, 120] = true
  · have hS : valS s.data.toList = valD 16 (⟨(s.data.toList.drop 2).toArray⟩ : ByteArray).data.toList := by unfold valS; rw [if_pos hp]
    rw [hS]
    exact Value_16 s _ _ w rfl fun w => (Tryz.strings_CutPrefix s ⟨#[48, 120]⟩ w).mono fun e w' h => ⟨by
        have h1 := h.1
        rw [show (⟨#[48, 120]⟩ : ByteArray).data.toList = [48, 120] from rfl, trim_list _ hp, hp] at h1
        exact h1, h.2.symm⟩
  · have hp' : Lib.hasPrefix s.data.toList [48, 120] = false := by simpa using hp
    have hS : valS s.data.toList = valD 10 s.data.toList := by unfold valS; rw [if_neg hp]
    rw [hS]
    exact Value_10 s s _ w rfl fun w => (Tryz.strings_CutPrefix s ⟨#[48, 120]⟩ w).mono fun e w' h => ⟨by
        have h1 := h.1
        rw [show (⟨#[48, 120]⟩ : ByteArray).data.toList = [48, 120] from rfl, hp'] at h1
        exact h1, h.2.symm⟩

theorem ret_bi {k : IntKind} {x : Bool} {a b : Int} {w : World} (h : a = b) : Ret (.tuple #[.bool x, .int k b]) w (.returned (.tuple #[.bool x, .int k a])) w := by subst h; exact ⟨rfl, rfl⟩
theorem signS1 {v : Int} (h : v ≤ 9223372036854775808) : signS true v = (-v, 0) := by unfold signS; rw [if_pos rfl, if_pos h]
theorem signS2 {v : Int} (h : ¬ v ≤ 9223372036854775808) : signS true v = (0, 4) := by unfold signS; rw [if_pos rfl, if_neg h]
theorem signS3 {v : Int} (h : v ≤ 9223372036854775807) : signS false v = (v, 0) := by unfold signS; rw [if_neg (by decide), if_pos h]
theorem signS4 {v : Int} (h : ¬ v ≤ 9223372036854775807) : signS false v = (0, 4) := by unfold signS; rw [if_neg (by decide), if_neg h]
theorem neg_wrap {v : Int} (h0 : 0 ≤ v) (h : v ≤ 9223372036854775808) : IntKind.i64.wrap (IntKind.u64.wrap (-v)) = -v := by rw [IntKind.wrap_u64, IntKind.wrap_i64]; omega

set_option maxHeartbeats 1000000 in
theorem Signed_any (m : Bool) (v : Int) (w : World) (h0 : 0 ≤ v) (h1 : v < 18446744073709551616) :
    Calls Tryz.prog 90 #[.bool m, .int .u64 v] w (Ret (two .i64 .i64 (signS m v)) w) := by
  cases m
  · by_cases c : v ≤ 9223372036854775807
    · have H := Lib.hid (signS3 c)
      go_enter Tryz.func90, Tryz.ntmps90
      go_wp2
      go_ret2
      exact ret_two H.out
    · have H := Lib.hid (signS4 c)
      go_enter Tryz.func90, Tryz.ntmps90
      go_wp2
      go_ret2
      exact ret_two H.out
  · by_cases c : v ≤ 9223372036854775808
    · have H := Lib.hid (signS1 c)
      have HW := Lib.hid (neg_wrap h0 c)
      go_enter Tryz.func90, Tryz.ntmps90
      go_wp2
      go_ret2
      exact ret_two (H.out.trans (by first | rfl | rw [HW.out] | (congr 1; unfold wrap64; rw [IntKind.wrap_u64]; omega) | (congr 1; unfold wrap64; omega)))
    · have H := Lib.hid (signS2 c)
      go_enter Tryz.func90, Tryz.ntmps90
      go_wp2
      go_ret2
      exact ret_two H.out
abbrev Pow10 (w : World) : Prop := Lib.TabIs Tryz.prog w "internal/strconv.uint64pow10" .u64 Lib.pow10Tab
theorem arr24 : Tryz.prog.arrayLen 169 = 24 := by kernel_rfl
theorem arr24e : Tryz.prog.elem 169 = 5 := by kernel_rfl

set_option maxHeartbeats 1600000 in
set_option maxRecDepth 100000 in
theorem fmt10_any (u : Nat) (w : World) (hu64 : u < 18446744073709551616) (hT : Pow10 w) :
    Calls Tryz.prog 120 #[.int .u64 u, .int .i64 10] w (RetB (.string ⟨(Lib.decDigits u).toArray⟩) w) := by
  by_cases hs : u < 100
  · have HS : Hid (∀ w, Calls Tryz.prog 121 #[.int .i64 u] w (Ret (.string ⟨(Lib.decDigits u).toArray⟩) w)) := Lib.hid fun w => (Tryz.internal_strconv_small u hs w).mono fun e w' h => ⟨h.1, h.2.symm⟩
    clear hT
    go_enter Tryz.func120, Tryz.ntmps120
    go_wp2_with (first | (go_at_call 121; ((with_reducible refine (HS.out _).mono ?_); rintro e w' ⟨rfl, rfl⟩)))
    go_ret
    exact ⟨rfl, Below.refl _ _⟩
  · have hu1 : 1 ≤ u := by omega
    have hnd20 : Lib.nDigits u ≤ 20 := by have := Lib.numDigits_eq u hu1 hu64; split at this <;> omega
    have hsl : ∀ W, (Instr.sliceAt 169 (.pointer (some ⟨w.heap.size, 0, none⟩)) none (some (.int .i64 (Lib.nDigits u : Int))) none).run Tryz.prog W = .ok (.slice (some ⟨w.heap.size, 0, none⟩) (Lib.nDigits u) 24) W := fun W => by
      rw [run_sliceAt_array_h W 169 ⟨w.heap.size, 0, none⟩ (by kernel_rfl) .i64 (Lib.nDigits u : Int) (by omega) (by rw [arr24]; omega)]
      rw [arr24]; rfl
    have hH0 := Lib.holds_zero0 w 169 (Lib.nDigits u) (by omega)
    have hfmt := Tryz.internal_strconv_formatBase10 w.heap.size 0 24 u (Array.replicate (Lib.nDigits u) 0) (w.alloc (.cells Lib.zeros24 169)) hH0 (by rw [Array.size_replicate]; exact Lib.lt_pow_nDigits u) hu64 (by rw [Array.size_replicate]; omega)
    rw [Array.size_replicate] at hfmt
    have HH0 := Lib.hid hH0
    have HF := Lib.hid hfmt
    have HN : Hid (∀ w, Pow10 w → Calls Tryz.prog 122 #[.int .u64 u] w (Ret (.int .i64 (Lib.nDigits u : Nat)) w)) := Lib.hid fun w h => (Tryz.internal_strconv_numDigits u hu1 hu64 w h).mono fun e w' h => ⟨h.1, h.2.symm⟩
    have HT := Lib.hid hT
    have hu100 : 100 ≤ u := by omega
    clear hH0 hfmt hT hs hu1
    go_enter Tryz.func120, Tryz.ntmps120
    go_wp2_with (first | (go_at_call 122; ((with_reducible refine (HN.out _ (Lib.tabIs_alloc HT.out _)).mono ?_); rintro e w' ⟨rfl, rfl⟩)))
    go_at_call 123
    refine HF.out.mono ?_
    rintro e w' ⟨rfl, k, v', dk, rfl, hF⟩
    have hcv : (convert 89 9 (.slice (some ⟨w.heap.size, 0, none⟩) (Lib.nDigits u) 24)).run Tryz.prog ((putRow (fun (b : UInt8) => Value.int .u8 (b.toNat : Int)) (w.alloc (.cells Lib.zeros24 169)) w.heap.size 0 dk).drewN k) = .ok (.string ⟨(Lib.decDigits u).toArray⟩) ((putRow (fun (b : UInt8) => Value.int .u8 (b.toNat : Int)) (w.alloc (.cells Lib.zeros24 169)) w.heap.size 0 dk).drewN k) := by
      have h := run_convert_bytes_back (P := Tryz.prog) ((putRow (fun (b : UInt8) => Value.int .u8 (b.toNat : Int)) (w.alloc (.cells Lib.zeros24 169)) w.heap.size 0 dk).drewN k) 89 9 5 ⟨w.heap.size, 0, none⟩ 24 (Lib.decDigits u) Tryz.underlying89 Tryz.underlying5 Tryz.underlying9 (fun j hj => by
        rw [Lib.row_is_numeral hF j hj, Lib.add_plain, World.cell?_drewN]
        exact cell?_putRow (fun (b : UInt8) => Value.int .u8 (b.toNat : Int)) _ w.heap.size 0 _ dk HH0.out (by rw [hF.size, Array.size_replicate]) j (by rw [hF.size]; rw [Lib.decDigits_length] at hj; exact hj))
      rw [Lib.decDigits_length] at h
      exact h
    have hnx2 : Below w.heap.size w ((putRow (fun (b : UInt8) => Value.int .u8 (b.toNat : Int)) (w.alloc (.cells Lib.zeros24 169)) w.heap.size 0 dk).drewN k) := by
      obtain ⟨os, eo⟩ := Lib.fin_at w (.cells Lib.zeros24 169) dk k 0
      rw [eo]; exact Lib.below_grow _ w (Nat.le_refl _) k os
    have HB2 := Lib.hid hnx2
    clear hnx2
    go_wp2
    go_ret
    exact ⟨rfl, HB2.out⟩

/-- A digit's byte; the digits of a number to a base, the highest one first. -/
def dgB (d : Nat) : UInt8 := UInt8.ofNat (if d < 10 then 48 + d else 87 + d)
def digL (b u : Nat) : List UInt8 := if h : u < b ∨ b < 2 then [dgB u] else digL b (u / b) ++ [dgB (u % b)]
termination_by u
decreasing_by exact Nat.div_lt_self (by omega) (by omega)
theorem digL_small {b u : Nat} (h : u < b) : digL b u = [dgB u] := by rw [digL, dif_pos (.inl h)]
theorem digL_big {b u : Nat} (h : b ≤ u) (hb : 2 ≤ b) : digL b u = digL b (u / b) ++ [dgB (u % b)] := by rw [digL, dif_neg (by omega)]
theorem decDigits_digL (u : Nat) : Lib.decDigits u = digL 10 u := by
  induction u using Nat.strongRecOn with
  | _ u ih =>
    by_cases h : u < 10
    · rw [digL_small h, Lib.decDigits, dif_pos h]; simp [dgB, h]
    · rw [digL_big (by omega) (by omega), Lib.decDigits, dif_neg h, ih (u / 10) (by omega)]
      have : u % 10 < 10 := Nat.mod_lt _ (by decide)
      simp [dgB, this]

def textB (u : Nat) : ByteArray := ⟨(digL 10 u).toArray⟩
theorem digL_len (b n : Nat) (hb : 2 ≤ b) (u : Nat) (h : u < b ^ (n + 1)) : (digL b u).length ≤ n + 1 := by
  induction n generalizing u with
  | zero => rw [digL_small (by simpa using h)]; simp
  | succ n ih =>
    by_cases c : u < b
    · rw [digL_small c]; simp
    · rw [digL_big (by omega) hb, List.length_append, List.length_singleton]
      have := ih (u / b) (Nat.div_lt_of_lt_mul (by rw [Nat.pow_succ] at h; rwa [Nat.mul_comm]))
      omega
theorem dig10_len (u : Nat) (h : u < 18446744073709551616) : (digL 10 u).length ≤ 20 := digL_len 10 19 (by decide) u (Nat.lt_of_lt_of_le h (by decide))
theorem Text_any (u : Nat) (w : World) (hu : u < 18446744073709551616) (hT : Pow10 w) :
    Calls Tryz.prog 102 #[.int .u64 u] w (RetB (.string (textB u)) w) := by
  have HF : Hid (Calls Tryz.prog 120 #[.int .u64 u, .int .i64 10] w (RetB (.string (textB u)) w)) := Lib.hid (by
    have := fmt10_any u w hu hT
    rwa [decDigits_digL] at this)
  clear hT
  have HG : Hid (Calls Tryz.prog 117 #[.int .u64 u, .int .i64 10] w (RetB (.string (textB u)) w)) := Lib.hid (by
    go_enter Tryz.func117, Tryz.ntmps117
    go_wp2_with fail
    refine HF.out.mono ?_
    rintro e w1 ⟨rfl, hb⟩
    have HB := Lib.hid hb
    clear hb
    go_wp2
    go_ret
    exact ⟨rfl, HB.out⟩)
  go_enter Tryz.func102, Tryz.ntmps102
  go_wp2_with fail
  refine HG.out.mono ?_
  rintro e w1 ⟨rfl, hb⟩
  have HB := Lib.hid hb
  clear hb
  go_wp2
  go_ret
  exact ⟨rfl, HB.out⟩
end Go.Proofs.YthejefldnpeciaaGreatDoor
