/- num.Value. -/
import Derived.Test.YtklebljckmkdlaaDoorN2
import Derived.Outline
import Derived.WalkMore
import Derived.ScopeJumps
namespace Go.Proofs.YtklebljckmkdlaaDoor
set_option linter.unusedVariables false
set_option linter.unusedSimpArgs false
open Go.RowKit

theorem retB_two {k l : IntKind} {a b : Int} {p : Int × Int} {w w' : World} (h : p = (a, b)) (hb : Below w.heap.size w w') : RetB (two k l p) w (.returned (.tuple #[.int k a, .int l b])) w' := by subst h; exact ⟨rfl, hb⟩
theorem trim_list (l : List UInt8) (h : Lib.hasPrefix l [48, 120] = true) : Lib.trimPrefix l [48, 120] = l.drop 2 := by
  unfold Lib.trimPrefix
  first | (rw [if_pos h]; rfl) | simp [h]
/-- What stands where Value leaves its loop by a jump. -/
def Jmp (w : World) (a : Act) (w' : World) : Prop := Below w.heap.size w w' ∧ ∃ (u0 u1 u2 u3 u4 u5 u6 u7 u8 u9 u10 u11 u12 u13 u14 u15 u16 u17 u18 u19 u20 u21 u22 u23 u24 u25 u26 u27 u28 u29 u30 u31 u32 u33 u34 u35 u36 u37 u38 u39 u40 u41 u42 u43 u44 u45 u46 u47 u48 u49 u50 u51 u52 : Value), a = { tmps := #[u0, u1, u2, u3, u4, u5, u6, u7, u8, u9, u10, u11, u12, u13, u14, u15, u16, u17, u18, u19, u20, u21, u22, u23, u24, u25, u26, u27, u28, u29, u30, u31, u32, u33, u34, u35, u36, u37, u38, u39, u40, u41, u42, u43, u44, u45, u46, u47, u48, u49, u50, u51, u52], defers := [] }
def VRel (b : Nat) (D : ByteArray) (o : Option Nat) (w1 : World) (x : Value) (wr : World) : Prop :=
  ∃ pos n : Nat, pos ≤ D.size ∧ wr = w1.iter D pos ∧ x = .int .u64 n ∧ n < 18446744073709551616 ∧ vf b (D.data.toList.drop pos) n = o

set_option maxHeartbeats 2000000 in
theorem Value_16 (s D E : ByteArray) (w : World) (hE : D = E)
    (hC : ∀ w, Calls Tryd.prog 21 #[.string s, .string ⟨#[48, 120]⟩] w (Ret (.tuple #[.string E, .bool true]) w)) :
    Calls Tryd.prog 8 #[.string s] w (RetB (two .u64 .i64 (valD 16 D.data.toList)) w) := by
  subst hE
  have HC := Lib.hid hC
  clear hC
  have HA : Hid (∀ w, Calls Tryd.prog 22 #[.string D, .int .u64 16] w (RetB (.bool (okL 16 D.data.toList && !D.data.toList.isEmpty)) w)) := Lib.hid fun w => areDigits_any D 16 w (by omega)
  have HLen := Lib.hid (bytes_len D)
  by_cases hbad : D.data.toList = [] ∨ okL 16 D.data.toList = false
  · have HV := Lib.hid (valD_bad hbad)
    have hv : (okL 16 D.data.toList && !D.data.toList.isEmpty) = false := by rcases hbad with h | h <;> rw [h] <;> simp
    rw [hv] at HA
    clear hbad hv
    go_enter Tryd.func8, Tryd.ntmps8
    go_wp2
    go_step3
    go_wp2_with (first | (go_at_call 21; ((with_reducible refine (HC.out _).mono ?_); rintro e w' ⟨rfl, rfl⟩)))
    refine (HA.out _).mono ?_
    rintro e w1 ⟨rfl, hb1⟩
    have HB := Lib.hid hb1
    clear hb1
    go_wp2
    rw [Exit.noGoto_ret]
    go_ret2
    exact retB_two (by rw [HV.out]) HB.out
  have hv : (okL 16 D.data.toList && !D.data.toList.isEmpty) = true := by
    have h1 : okL 16 D.data.toList = true := by cases h : okL 16 D.data.toList <;> simp [h] at hbad ⊢
    have h2 : D.data.toList.isEmpty = false := by rw [List.isEmpty_eq_false_iff]; exact fun h => hbad (.inl h)
    rw [h1, h2]; rfl
  have HOK : Hid (okL 16 D.data.toList = true) := Lib.hid (by simp at hv; exact hv.1)
  rw [hv] at HA
  have HG := Lib.hid hbad
  clear hbad hv
  cases ho : vf 16 D.data.toList 0 with
  | some z =>
    have HV := Lib.hid (valD_some HG.out ho)
    have HO := Lib.hid ho
    clear ho
    go_enter Tryd.func8, Tryd.ntmps8
    go_wp2
    go_step3
    go_wp2_with (first | (go_at_call 21; ((with_reducible refine (HC.out _).mono ?_); rintro e w' ⟨rfl, rfl⟩)))
    refine (HA.out _).mono ?_
    rintro e w1 ⟨rfl, hb1⟩
    have HB := Lib.hid hb1
    clear hb1
    go_wp2
    go_loopw [8, 10, 11, 12, 13, 14] (fun x _ _ _ _ _ wr => VRel 16 D (some z) w1 x wr) (fun _ _ _ _ _ _ wr => D.size - wr.iterPos w1.heap.size)
    case atStart => exact ⟨0, 0, by omega, rfl, rfl, by omega, HO.out⟩
    case round =>
      obtain ⟨pos, n, hp, rfl, rfl, hn, hvf⟩ := hrel
      have HF := Lib.hid hvf
      clear hvf
      by_cases hlt : pos < D.size
      · have hnx : ∀ ty, (Instr.next (.pointer (some ⟨w1.heap.size, 0, none⟩)) true ty).run Tryd.prog (w1.iter D pos) = _ := fun ty => run_next_any w1 D pos ty hlt
        have hdb : digB D[pos] < 16 := okL_drop HOK.out pos (by rw [HLen.out]; exact hlt)
        have HW := Lib.hid (width_one D pos hlt (by omega))
        have HD : Hid (∀ w, Calls Tryd.prog 25 #[.int .i32 (Utf8.decode D pos).1] w (Ret (.int .u64 (digB D[pos] : Nat)) w)) := Lib.hid fun w => digit_at D pos hlt w
        have HS := Lib.hid (bytes_drop D pos hlt)
        have hst : n * 16 + digB D[pos] < 18446744073709551616 := by
          apply Classical.byContradiction
          intro h
          have h2 := HF.out
          rw [HS.out, vf_stop h] at h2
          cases h2
        have HF2 : Hid (vf 16 (D.data.toList.drop (pos + 1)) (n * 16 + digB D[pos]) = some z) := Lib.hid (by have h2 := HF.out; rwa [HS.out, vf_step hst] at h2)
        have HM : Hid (∀ w, Calls Tryd.prog 23 #[.int .u64 n, .int .u64 16] w (Ret (.tuple #[.int .u64 0, .int .u64 ((n * 16 : Nat) : Int)]) w)) := Lib.hid fun w => by
          have h := mul_at n 16 16 rfl w hn (by omega)
          rw [Nat.div_eq_of_lt (by omega), Nat.mod_eq_of_lt (by omega)] at h
          exact h
        have hadd : ∀ w, (callFunc 24 #[.int .u64 ((n * 16 : Nat) : Int), .int .u64 (digB D[pos] : Nat), .int .u64 0]).run Tryd.prog w = .ok (.value (.tuple #[.int .u64 ((n * 16 + digB D[pos] : Nat) : Int), .int .u64 0])) w := fun w => by
          have h := add_at (n * 16) (digB D[pos]) w
          rw [Nat.div_eq_of_lt hst, Nat.mod_eq_of_lt hst] at h
          exact h
        generalize digB D[pos] = d at *
        generalize n * 16 + d = q at *
        generalize n * 16 = p at *
        go_wp2_with (first | (go_at_call 23; ((with_reducible refine (HM.out _).mono ?_); rintro e w' ⟨rfl, rfl⟩)) | (go_at_call 25; ((with_reducible refine (HD.out _).mono ?_); rintro e w' ⟨rfl, rfl⟩)))
        go_roundw
        case rel => exact ⟨pos + 1, q, by omega, by rw [HW.out], rfl, hst, HF2.out⟩
        case measure => rw [World.iterPos_iter, HW.out]; simp; omega
      · have hnx : ∀ ty, (Instr.next (.pointer (some ⟨w1.heap.size, 0, none⟩)) true ty).run Tryd.prog (w1.iter D pos) = _ := fun ty => run_next_end w1 D pos ty hlt
        have HE : Hid (n = z) := Lib.hid (by
          have h2 := HF.out
          rw [List.drop_eq_nil_of_le (by rw [HLen.out]; omega)] at h2
          exact Option.some.inj h2)
        go_wp2
        rw [Exit.noGoto_ret]
        go_ret2
        exact retB_two (by rw [HV.out, HE.out]) (HB.out.alloc HB.out.size _)
  | none =>
    have HV := Lib.hid (valD_none HG.out ho)
    have HO := Lib.hid ho
    clear ho
    go_enter Tryd.func8, Tryd.ntmps8
    go_wp2
    refine wp_scope_jumps 0 (fun a' w' => Jmp w a' w') (fun _ _ => 0) rfl ?_ ?_
    · go_wp2_with (first | (go_at_call 21; ((with_reducible refine (HC.out _).mono ?_); rintro e w' ⟨rfl, rfl⟩)))
      refine (HA.out _).mono ?_
      rintro e w1 ⟨rfl, hb1⟩
      have HB := Lib.hid hb1
      clear hb1
      go_wp2
      go_loopw [8, 10, 11, 12, 13, 14] (fun x _ _ _ _ _ wr => VRel 16 D none w1 x wr) (fun _ _ _ _ _ _ wr => D.size - wr.iterPos w1.heap.size)
      case atStart => exact ⟨0, 0, by omega, rfl, rfl, by omega, HO.out⟩
      case round =>
        obtain ⟨pos, n, hp, rfl, rfl, hn, hvf⟩ := hrel
        have HF := Lib.hid hvf
        clear hvf
        by_cases hlt : pos < D.size
        · have hnx : ∀ ty, (Instr.next (.pointer (some ⟨w1.heap.size, 0, none⟩)) true ty).run Tryd.prog (w1.iter D pos) = _ := fun ty => run_next_any w1 D pos ty hlt
          have hdb : digB D[pos] < 16 := okL_drop HOK.out pos (by rw [HLen.out]; exact hlt)
          have HW := Lib.hid (width_one D pos hlt (by omega))
          have HD : Hid (∀ w, Calls Tryd.prog 25 #[.int .i32 (Utf8.decode D pos).1] w (Ret (.int .u64 (digB D[pos] : Nat)) w)) := Lib.hid fun w => digit_at D pos hlt w
          have HS := Lib.hid (bytes_drop D pos hlt)
          by_cases hst : n * 16 + digB D[pos] < 18446744073709551616
          · have HF2 : Hid (vf 16 (D.data.toList.drop (pos + 1)) (n * 16 + digB D[pos]) = none) := Lib.hid (by have h2 := HF.out; rwa [HS.out, vf_step hst] at h2)
            have HM : Hid (∀ w, Calls Tryd.prog 23 #[.int .u64 n, .int .u64 16] w (Ret (.tuple #[.int .u64 0, .int .u64 ((n * 16 : Nat) : Int)]) w)) := Lib.hid fun w => by
              have h := mul_at n 16 16 rfl w hn (by omega)
              rw [Nat.div_eq_of_lt (by omega), Nat.mod_eq_of_lt (by omega)] at h
              exact h
            have hadd : ∀ w, (callFunc 24 #[.int .u64 ((n * 16 : Nat) : Int), .int .u64 (digB D[pos] : Nat), .int .u64 0]).run Tryd.prog w = .ok (.value (.tuple #[.int .u64 ((n * 16 + digB D[pos] : Nat) : Int), .int .u64 0])) w := fun w => by
              have h := add_at (n * 16) (digB D[pos]) w
              rw [Nat.div_eq_of_lt hst, Nat.mod_eq_of_lt hst] at h
              exact h
            generalize digB D[pos] = d at *
            generalize n * 16 + d = q at *
            generalize n * 16 = p at *
            go_wp2_with (first | (go_at_call 23; ((with_reducible refine (HM.out _).mono ?_); rintro e w' ⟨rfl, rfl⟩)) | (go_at_call 25; ((with_reducible refine (HD.out _).mono ?_); rintro e w' ⟨rfl, rfl⟩)))
            go_roundw
            case rel => exact ⟨pos + 1, q, by omega, by rw [HW.out], rfl, hst, HF2.out⟩
            case measure => rw [World.iterPos_iter, HW.out]; simp; omega
          · have HM : Hid (∀ w, Calls Tryd.prog 23 #[.int .u64 n, .int .u64 16] w (Ret (.tuple #[.int .u64 ((n * 16 / 18446744073709551616 : Nat) : Int), .int .u64 ((n * 16 % 18446744073709551616 : Nat) : Int)]) w)) := Lib.hid fun w => mul_at n 16 16 rfl w hn (by omega)
            have hadd : ∀ w, (callFunc 24 #[.int .u64 ((n * 16 % 18446744073709551616 : Nat) : Int), .int .u64 (digB D[pos] : Nat), .int .u64 0]).run Tryd.prog w = _ := fun w => add_at _ _ w
            have hor : n * 16 / 18446744073709551616 ≠ 0 ∨ n * 16 / 18446744073709551616 = 0 ∧ (n * 16 % 18446744073709551616 + digB D[pos]) / 18446744073709551616 = 1 := by omega
            clear hst hn
            generalize digB D[pos] = d at *
            generalize (n * 16 % 18446744073709551616 + d) / 18446744073709551616 = cy at *
            generalize (n * 16 % 18446744073709551616 + d) % 18446744073709551616 = sm at *
            generalize n * 16 % 18446744073709551616 = lo at *
            generalize n * 16 / 18446744073709551616 = hi at *
            rcases hor with h1 | ⟨rfl, rfl⟩
            · have q1 : ((hi : Int) != 0) = true := by rw [bne_iff_ne]; omega
              clear h1
              go_wp2_with (first | (go_at_call 23; ((with_reducible refine (HM.out _).mono ?_); rintro e w' ⟨rfl, rfl⟩)) | (go_at_call 25; ((with_reducible refine (HD.out _).mono ?_); rintro e w' ⟨rfl, rfl⟩)))
              go_step3
              exact ⟨rfl, HB.out.alloc HB.out.size _, _, _, _, _, _, _, _, _, _, _, _, _, _, _, _, _, _, _, _, _, _, _, _, _, _, _, _, _, _, _, _, _, _, _, _, _, _, _, _, _, _, _, _, _, _, _, _, _, _, _, _, _, _, rfl⟩
            · go_wp2_with (first | (go_at_call 23; ((with_reducible refine (HM.out _).mono ?_); rintro e w' ⟨rfl, rfl⟩)) | (go_at_call 25; ((with_reducible refine (HD.out _).mono ?_); rintro e w' ⟨rfl, rfl⟩)))
              go_step3
              exact ⟨rfl, HB.out.alloc HB.out.size _, _, _, _, _, _, _, _, _, _, _, _, _, _, _, _, _, _, _, _, _, _, _, _, _, _, _, _, _, _, _, _, _, _, _, _, _, _, _, _, _, _, _, _, _, _, _, _, _, _, _, _, _, _, rfl⟩
        · exfalso
          have h2 := HF.out
          rw [List.drop_eq_nil_of_le (by rw [HLen.out]; omega)] at h2
          cases h2
    · rintro a' w' ⟨hb, u0, u1, u2, u3, u4, u5, u6, u7, u8, u9, u10, u11, u12, u13, u14, u15, u16, u17, u18, u19, u20, u21, u22, u23, u24, u25, u26, u27, u28, u29, u30, u31, u32, u33, u34, u35, u36, u37, u38, u39, u40, u41, u42, u43, u44, u45, u46, u47, u48, u49, u50, u51, u52, rfl⟩
      have HB := Lib.hid hb
      clear hb
      go_wp2
      simp only [Exit.jump]
      go_ret2
      exact retB_two (by rw [HV.out]) HB.out

set_option maxHeartbeats 2000000 in
theorem Value_10 (s D E : ByteArray) (w : World) (hE : D = s)
    (hC : ∀ w, Calls Tryd.prog 21 #[.string s, .string ⟨#[48, 120]⟩] w (Ret (.tuple #[.string E, .bool false]) w)) :
    Calls Tryd.prog 8 #[.string s] w (RetB (two .u64 .i64 (valD 10 D.data.toList)) w) := by
  subst hE
  have HC := Lib.hid hC
  clear hC
  have HA : Hid (∀ w, Calls Tryd.prog 22 #[.string D, .int .u64 10] w (RetB (.bool (okL 10 D.data.toList && !D.data.toList.isEmpty)) w)) := Lib.hid fun w => areDigits_any D 10 w (by omega)
  have HLen := Lib.hid (bytes_len D)
  by_cases hbad : D.data.toList = [] ∨ okL 10 D.data.toList = false
  · have HV := Lib.hid (valD_bad hbad)
    have hv : (okL 10 D.data.toList && !D.data.toList.isEmpty) = false := by rcases hbad with h | h <;> rw [h] <;> simp
    rw [hv] at HA
    clear hbad hv
    go_enter Tryd.func8, Tryd.ntmps8
    go_wp2
    go_step3
    go_wp2_with (first | (go_at_call 21; ((with_reducible refine (HC.out _).mono ?_); rintro e w' ⟨rfl, rfl⟩)))
    refine (HA.out _).mono ?_
    rintro e w1 ⟨rfl, hb1⟩
    have HB := Lib.hid hb1
    clear hb1
    go_wp2
    rw [Exit.noGoto_ret]
    go_ret2
    exact retB_two (by rw [HV.out]) HB.out
  have hv : (okL 10 D.data.toList && !D.data.toList.isEmpty) = true := by
    have h1 : okL 10 D.data.toList = true := by cases h : okL 10 D.data.toList <;> simp [h] at hbad ⊢
    have h2 : D.data.toList.isEmpty = false := by rw [List.isEmpty_eq_false_iff]; exact fun h => hbad (.inl h)
    rw [h1, h2]; rfl
  have HOK : Hid (okL 10 D.data.toList = true) := Lib.hid (by simp at hv; exact hv.1)
  rw [hv] at HA
  have HG := Lib.hid hbad
  clear hbad hv
  cases ho : vf 10 D.data.toList 0 with
  | some z =>
    have HV := Lib.hid (valD_some HG.out ho)
    have HO := Lib.hid ho
    clear ho
    go_enter Tryd.func8, Tryd.ntmps8
    go_wp2
    go_step3
    go_wp2_with (first | (go_at_call 21; ((with_reducible refine (HC.out _).mono ?_); rintro e w' ⟨rfl, rfl⟩)))
    refine (HA.out _).mono ?_
    rintro e w1 ⟨rfl, hb1⟩
    have HB := Lib.hid hb1
    clear hb1
    go_wp2
    go_loopw [8, 10, 11, 12, 13, 14] (fun x _ _ _ _ _ wr => VRel 10 D (some z) w1 x wr) (fun _ _ _ _ _ _ wr => D.size - wr.iterPos w1.heap.size)
    case atStart => exact ⟨0, 0, by omega, rfl, rfl, by omega, HO.out⟩
    case round =>
      obtain ⟨pos, n, hp, rfl, rfl, hn, hvf⟩ := hrel
      have HF := Lib.hid hvf
      clear hvf
      by_cases hlt : pos < D.size
      · have hnx : ∀ ty, (Instr.next (.pointer (some ⟨w1.heap.size, 0, none⟩)) true ty).run Tryd.prog (w1.iter D pos) = _ := fun ty => run_next_any w1 D pos ty hlt
        have hdb : digB D[pos] < 10 := okL_drop HOK.out pos (by rw [HLen.out]; exact hlt)
        have HW := Lib.hid (width_one D pos hlt (by omega))
        have HD : Hid (∀ w, Calls Tryd.prog 25 #[.int .i32 (Utf8.decode D pos).1] w (Ret (.int .u64 (digB D[pos] : Nat)) w)) := Lib.hid fun w => digit_at D pos hlt w
        have HS := Lib.hid (bytes_drop D pos hlt)
        have hst : n * 10 + digB D[pos] < 18446744073709551616 := by
          apply Classical.byContradiction
          intro h
          have h2 := HF.out
          rw [HS.out, vf_stop h] at h2
          cases h2
        have HF2 : Hid (vf 10 (D.data.toList.drop (pos + 1)) (n * 10 + digB D[pos]) = some z) := Lib.hid (by have h2 := HF.out; rwa [HS.out, vf_step hst] at h2)
        have HM : Hid (∀ w, Calls Tryd.prog 23 #[.int .u64 n, .int .u64 10] w (Ret (.tuple #[.int .u64 0, .int .u64 ((n * 10 : Nat) : Int)]) w)) := Lib.hid fun w => by
          have h := mul_at n 10 10 rfl w hn (by omega)
          rw [Nat.div_eq_of_lt (by omega), Nat.mod_eq_of_lt (by omega)] at h
          exact h
        have hadd : ∀ w, (callFunc 24 #[.int .u64 ((n * 10 : Nat) : Int), .int .u64 (digB D[pos] : Nat), .int .u64 0]).run Tryd.prog w = .ok (.value (.tuple #[.int .u64 ((n * 10 + digB D[pos] : Nat) : Int), .int .u64 0])) w := fun w => by
          have h := add_at (n * 10) (digB D[pos]) w
          rw [Nat.div_eq_of_lt hst, Nat.mod_eq_of_lt hst] at h
          exact h
        generalize digB D[pos] = d at *
        generalize n * 10 + d = q at *
        generalize n * 10 = p at *
        go_wp2_with (first | (go_at_call 23; ((with_reducible refine (HM.out _).mono ?_); rintro e w' ⟨rfl, rfl⟩)) | (go_at_call 25; ((with_reducible refine (HD.out _).mono ?_); rintro e w' ⟨rfl, rfl⟩)))
        go_roundw
        case rel => exact ⟨pos + 1, q, by omega, by rw [HW.out], rfl, hst, HF2.out⟩
        case measure => rw [World.iterPos_iter, HW.out]; simp; omega
      · have hnx : ∀ ty, (Instr.next (.pointer (some ⟨w1.heap.size, 0, none⟩)) true ty).run Tryd.prog (w1.iter D pos) = _ := fun ty => run_next_end w1 D pos ty hlt
        have HE : Hid (n = z) := Lib.hid (by
          have h2 := HF.out
          rw [List.drop_eq_nil_of_le (by rw [HLen.out]; omega)] at h2
          exact Option.some.inj h2)
        go_wp2
        rw [Exit.noGoto_ret]
        go_ret2
        exact retB_two (by rw [HV.out, HE.out]) (HB.out.alloc HB.out.size _)
  | none =>
    have HV := Lib.hid (valD_none HG.out ho)
    have HO := Lib.hid ho
    clear ho
    go_enter Tryd.func8, Tryd.ntmps8
    go_wp2
    refine wp_scope_jumps 0 (fun a' w' => Jmp w a' w') (fun _ _ => 0) rfl ?_ ?_
    · go_wp2_with (first | (go_at_call 21; ((with_reducible refine (HC.out _).mono ?_); rintro e w' ⟨rfl, rfl⟩)))
      refine (HA.out _).mono ?_
      rintro e w1 ⟨rfl, hb1⟩
      have HB := Lib.hid hb1
      clear hb1
      go_wp2
      go_loopw [8, 10, 11, 12, 13, 14] (fun x _ _ _ _ _ wr => VRel 10 D none w1 x wr) (fun _ _ _ _ _ _ wr => D.size - wr.iterPos w1.heap.size)
      case atStart => exact ⟨0, 0, by omega, rfl, rfl, by omega, HO.out⟩
      case round =>
        obtain ⟨pos, n, hp, rfl, rfl, hn, hvf⟩ := hrel
        have HF := Lib.hid hvf
        clear hvf
        by_cases hlt : pos < D.size
        · have hnx : ∀ ty, (Instr.next (.pointer (some ⟨w1.heap.size, 0, none⟩)) true ty).run Tryd.prog (w1.iter D pos) = _ := fun ty => run_next_any w1 D pos ty hlt
          have hdb : digB D[pos] < 10 := okL_drop HOK.out pos (by rw [HLen.out]; exact hlt)
          have HW := Lib.hid (width_one D pos hlt (by omega))
          have HD : Hid (∀ w, Calls Tryd.prog 25 #[.int .i32 (Utf8.decode D pos).1] w (Ret (.int .u64 (digB D[pos] : Nat)) w)) := Lib.hid fun w => digit_at D pos hlt w
          have HS := Lib.hid (bytes_drop D pos hlt)
          by_cases hst : n * 10 + digB D[pos] < 18446744073709551616
          · have HF2 : Hid (vf 10 (D.data.toList.drop (pos + 1)) (n * 10 + digB D[pos]) = none) := Lib.hid (by have h2 := HF.out; rwa [HS.out, vf_step hst] at h2)
            have HM : Hid (∀ w, Calls Tryd.prog 23 #[.int .u64 n, .int .u64 10] w (Ret (.tuple #[.int .u64 0, .int .u64 ((n * 10 : Nat) : Int)]) w)) := Lib.hid fun w => by
              have h := mul_at n 10 10 rfl w hn (by omega)
              rw [Nat.div_eq_of_lt (by omega), Nat.mod_eq_of_lt (by omega)] at h
              exact h
            have hadd : ∀ w, (callFunc 24 #[.int .u64 ((n * 10 : Nat) : Int), .int .u64 (digB D[pos] : Nat), .int .u64 0]).run Tryd.prog w = .ok (.value (.tuple #[.int .u64 ((n * 10 + digB D[pos] : Nat) : Int), .int .u64 0])) w := fun w => by
              have h := add_at (n * 10) (digB D[pos]) w
              rw [Nat.div_eq_of_lt hst, Nat.mod_eq_of_lt hst] at h
              exact h
            generalize digB D[pos] = d at *
            generalize n * 10 + d = q at *
            generalize n * 10 = p at *
            go_wp2_with (first | (go_at_call 23; ((with_reducible refine (HM.out _).mono ?_); rintro e w' ⟨rfl, rfl⟩)) | (go_at_call 25; ((with_reducible refine (HD.out _).mono ?_); rintro e w' ⟨rfl, rfl⟩)))
            go_roundw
            case rel => exact ⟨pos + 1, q, by omega, by rw [HW.out], rfl, hst, HF2.out⟩
            case measure => rw [World.iterPos_iter, HW.out]; simp; omega
          · have HM : Hid (∀ w, Calls Tryd.prog 23 #[.int .u64 n, .int .u64 10] w (Ret (.tuple #[.int .u64 ((n * 10 / 18446744073709551616 : Nat) : Int), .int .u64 ((n * 10 % 18446744073709551616 : Nat) : Int)]) w)) := Lib.hid fun w => mul_at n 10 10 rfl w hn (by omega)
            have hadd : ∀ w, (callFunc 24 #[.int .u64 ((n * 10 % 18446744073709551616 : Nat) : Int), .int .u64 (digB D[pos] : Nat), .int .u64 0]).run Tryd.prog w = _ := fun w => add_at _ _ w
            have hor : n * 10 / 18446744073709551616 ≠ 0 ∨ n * 10 / 18446744073709551616 = 0 ∧ (n * 10 % 18446744073709551616 + digB D[pos]) / 18446744073709551616 = 1 := by omega
            clear hst hn
            generalize digB D[pos] = d at *
            generalize (n * 10 % 18446744073709551616 + d) / 18446744073709551616 = cy at *
            generalize (n * 10 % 18446744073709551616 + d) % 18446744073709551616 = sm at *
            generalize n * 10 % 18446744073709551616 = lo at *
            generalize n * 10 / 18446744073709551616 = hi at *
            rcases hor with h1 | ⟨rfl, rfl⟩
            · have q1 : ((hi : Int) != 0) = true := by rw [bne_iff_ne]; omega
              clear h1
              go_wp2_with (first | (go_at_call 23; ((with_reducible refine (HM.out _).mono ?_); rintro e w' ⟨rfl, rfl⟩)) | (go_at_call 25; ((with_reducible refine (HD.out _).mono ?_); rintro e w' ⟨rfl, rfl⟩)))
              go_step3
              exact ⟨rfl, HB.out.alloc HB.out.size _, _, _, _, _, _, _, _, _, _, _, _, _, _, _, _, _, _, _, _, _, _, _, _, _, _, _, _, _, _, _, _, _, _, _, _, _, _, _, _, _, _, _, _, _, _, _, _, _, _, _, _, _, _, rfl⟩
            · go_wp2_with (first | (go_at_call 23; ((with_reducible refine (HM.out _).mono ?_); rintro e w' ⟨rfl, rfl⟩)) | (go_at_call 25; ((with_reducible refine (HD.out _).mono ?_); rintro e w' ⟨rfl, rfl⟩)))
              go_step3
              exact ⟨rfl, HB.out.alloc HB.out.size _, _, _, _, _, _, _, _, _, _, _, _, _, _, _, _, _, _, _, _, _, _, _, _, _, _, _, _, _, _, _, _, _, _, _, _, _, _, _, _, _, _, _, _, _, _, _, _, _, _, _, _, _, _, rfl⟩
        · exfalso
          have h2 := HF.out
          rw [List.drop_eq_nil_of_le (by rw [HLen.out]; omega)] at h2
          cases h2
    · rintro a' w' ⟨hb, u0, u1, u2, u3, u4, u5, u6, u7, u8, u9, u10, u11, u12, u13, u14, u15, u16, u17, u18, u19, u20, u21, u22, u23, u24, u25, u26, u27, u28, u29, u30, u31, u32, u33, u34, u35, u36, u37, u38, u39, u40, u41, u42, u43, u44, u45, u46, u47, u48, u49, u50, u51, u52, rfl⟩
      have HB := Lib.hid hb
      clear hb
      go_wp2
      simp only [Exit.jump]
      go_ret2
      exact retB_two (by rw [HV.out]) HB.out

theorem Value_any (s : ByteArray) (w : World) :
    Calls Tryd.prog 8 #[.string s] w (RetB (two .u64 .i64 (valS s.data.toList)) w) := by
  by_cases hp : Lib.hasPrefix s.data.toList [48, 120] = true
  · have hS : valS s.data.toList = valD 16 (⟨(s.data.toList.drop 2).toArray⟩ : ByteArray).data.toList := by unfold valS; rw [if_pos hp]
    rw [hS]
    exact Value_16 s _ _ w rfl fun w => (Tryd.strings_CutPrefix s ⟨#[48, 120]⟩ w).mono fun e w' h => ⟨by
        have h1 := h.1
        rw [show (⟨#[48, 120]⟩ : ByteArray).data.toList = [48, 120] from rfl, trim_list _ hp, hp] at h1
        exact h1, h.2.symm⟩
  · have hp' : Lib.hasPrefix s.data.toList [48, 120] = false := by simpa using hp
    have hS : valS s.data.toList = valD 10 s.data.toList := by unfold valS; rw [if_neg hp]
    rw [hS]
    exact Value_10 s s _ w rfl fun w => (Tryd.strings_CutPrefix s ⟨#[48, 120]⟩ w).mono fun e w' h => ⟨by
        have h1 := h.1
        rw [show (⟨#[48, 120]⟩ : ByteArray).data.toList = [48, 120] from rfl, hp'] at h1
        exact h1, h.2.symm⟩
end Go.Proofs.YtklebljckmkdlaaDoor
