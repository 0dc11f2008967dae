/- num.digit, num.areDigits, num.Value. -/
import Derived.Test.YtklebljckmkdlaaDoorN1
import Derived.Test.YtklebljckmkdlaaDoorS
import Derived.Test.YtklebljckmkdlaaDoorShelf
import Derived.Laws.RangeString
import Derived.Laws.RangeAny
import Derived.Laws.Runes
import Derived.Shelf.Spec.BitsCarry
namespace Go.Proofs.YtklebljckmkdlaaDoor
set_option linter.unusedVariables false
set_option linter.unusedSimpArgs false
open Go.RowKit

set_option maxHeartbeats 400000 in
theorem digit_any (r : Nat) (w : World) (h : r ≤ 2147483647) : Calls Tryd.prog 25 #[.int .i32 r] w (Ret (.int .u64 (digR r : Nat)) w) := by
  have hc : (48 ≤ r ∧ r ≤ 57) ∨ (57 < r ∧ 97 ≤ r ∧ r ≤ 102) ∨ (57 < r ∧ r < 97 ∧ 65 ≤ r ∧ r ≤ 70) ∨ r < 48 ∨ (57 < r ∧ r < 65) ∨ (70 < r ∧ r < 97) ∨ 102 < r := by omega
  rcases hc with ⟨h1, h2⟩ | ⟨h1, h2, h3⟩ | ⟨h1, h2, h3, h4⟩ | h1 | ⟨h1, h2⟩ | ⟨h1, h2⟩ | h1
  · have H : Hid ((digR r : Int) = (r : Int) - 48) := Lib.hid (by unfold digR; rw [if_pos ⟨h1, h2⟩]; omega)
    go_enter Tryd.func25, Tryd.ntmps25
    go_wp2
    go_ret
    exact ret_int (by rw [H.out])
  · have H : Hid ((digR r : Int) = (r : Int) - 97 + 10) := Lib.hid (by unfold digR; rw [if_neg (by omega), if_pos ⟨h2, h3⟩]; omega)
    go_enter Tryd.func25, Tryd.ntmps25
    go_wp2
    go_ret
    exact ret_int (by rw [H.out])
  · have H : Hid ((digR r : Int) = (r : Int) - 65 + 10) := Lib.hid (by unfold digR; rw [if_neg (by omega), if_neg (by omega), if_pos ⟨h3, h4⟩]; omega)
    go_enter Tryd.func25, Tryd.ntmps25
    go_wp2
    go_ret
    exact ret_int (by rw [H.out])
  all_goals
    have H : Hid ((digR r : Int) = 16) := Lib.hid (by unfold digR; rw [if_neg (by omega), if_neg (by omega), if_neg (by omega)]; rfl)
    go_enter Tryd.func25, Tryd.ntmps25
    go_wp2
    go_ret
    exact ret_int (by rw [H.out])
theorem digit_at (D : ByteArray) (pos : Nat) (h : pos < D.size) (w : World) :
    Calls Tryd.prog 25 #[.int .i32 (Utf8.decode D pos).1] w (Ret (.int .u64 (digB D[pos] : Nat)) w) := by
  have e : digR (Utf8.decode D pos).1 = digB D[pos] := by
    by_cases c : (D[pos]'h).toNat < 128
    · rw [decode_ascii D pos h c]; rfl
    · rw [digR_high (decode_high D pos h (by omega)).1, digB_high (by omega)]
  have := digit_any (Utf8.decode D pos).1 w (decode_le D pos)
  rwa [e] at this
theorem width_one (D : ByteArray) (pos : Nat) (h : pos < D.size) (hd : digB D[pos] < 16) : (Utf8.decode D pos).2 = 1 := by
  rw [decode_ascii D pos h (digB_ascii hd)]

set_option maxHeartbeats 400000 in
theorem areDigits_any (D : ByteArray) (b : Nat) (w : World) (hb : b ≤ 16) :
    Calls Tryd.prog 22 #[.string D, .int .u64 b] w (RetB (.bool (okL b D.data.toList && !D.data.toList.isEmpty)) w) := by
  have HL := Lib.hid (bytes_len D)
  go_enter Tryd.func22, Tryd.ntmps22
  go_wp2
  go_loopw [6] (fun _ wr => ∃ pos : Nat, pos ≤ D.size ∧ wr = w.iter D pos ∧ okL b D.data.toList = okL b (D.data.toList.drop pos)) (fun _ wr => D.size - wr.iterPos w.heap.size)
  case atStart => exact ⟨0, by omega, rfl, rfl⟩
  case round =>
    obtain ⟨pos, hp, rfl, hok⟩ := hrel
    have HOK := Lib.hid hok
    clear hok
    by_cases hlt : pos < D.size
    · have hnx : ∀ ty, (Instr.next (.pointer (some ⟨w.heap.size, 0, none⟩)) true ty).run Tryd.prog (w.iter D pos) = _ := fun ty => run_next_any w D pos ty hlt
      have HD : Hid (∀ w, Calls Tryd.prog 25 #[.int .i32 (Utf8.decode D pos).1] w (Ret (.int .u64 (digB D[pos] : Nat)) w)) := Lib.hid fun w => digit_at D pos hlt w
      have HS := Lib.hid (bytes_drop D pos hlt)
      by_cases hd : digB D[pos] < b
      · have HW := Lib.hid (width_one D pos hlt (by omega))
        have HC : Hid (okL b D.data.toList = okL b (D.data.toList.drop (pos + 1))) := Lib.hid (by rw [HOK.out, HS.out, okL_cons, decide_eq_true hd, Bool.true_and])
        generalize digB D[pos] = d at *
        go_wp2_with (first | (go_at_call 25; refine (HD.out _).mono ?_; rintro e w' ⟨rfl, rfl⟩))
        go_roundw
        case rel => exact ⟨pos + 1, by omega, by rw [HW.out], HC.out⟩
        case measure => rw [World.iterPos_iter, HW.out]; simp; omega
      · have HC : Hid (okL b D.data.toList = false) := Lib.hid (by rw [HOK.out, HS.out, okL_cons, decide_eq_false hd, Bool.false_and])
        generalize digB D[pos] = d at *
        go_wp2_with (first | (go_at_call 25; refine (HD.out _).mono ?_; rintro e w' ⟨rfl, rfl⟩))
        go_ret
        exact retB_bool (by rw [HC.out, Bool.false_and]) ((Below.refl _ _).alloc (Nat.le_refl _) _)
    · have hnx : ∀ ty, (Instr.next (.pointer (some ⟨w.heap.size, 0, none⟩)) true ty).run Tryd.prog (w.iter D pos) = _ := fun ty => run_next_end w D pos ty hlt
      have HC : Hid (okL b D.data.toList = true) := Lib.hid (by rw [HOK.out, List.drop_eq_nil_of_le (by rw [HL.out]; omega)]; rfl)
      go_wp2
      go_ret
      refine retB_bool ?_ ((Below.refl _ _).alloc (Nat.le_refl _) _)
      rw [HC.out, Bool.true_and, Lib.toList_data]

theorem mul_at (v b : Nat) (B : Int) (hB : B = b) (w : World) (hv : v < 18446744073709551616) (hb : b ≤ 16) :
    Calls Tryd.prog 23 #[.int .u64 v, .int .u64 B] w (Ret (.tuple #[.int .u64 ((v * b / 18446744073709551616 : Nat) : Int), .int .u64 ((v * b % 18446744073709551616 : Nat) : Int)]) w) := by
  subst hB
  exact (Tryd.bits_Mul64 v b hv (by omega) w).mono fun e w' h => ⟨h.1, h.2.symm⟩
theorem add_at (x y : Nat) (w : World) : (callFunc 24 #[.int .u64 x, .int .u64 y, .int .u64 0]).run Tryd.prog w =
    .ok (.value (.tuple #[.int .u64 (((x + y) % 18446744073709551616 : Nat) : Int), .int .u64 (((x + y) / 18446744073709551616 : Nat) : Int)])) w := by
  rw [run_callFunc_extern Tryd.func24 (by kernel_rfl) (by kernel_rfl) (by kernel_rfl) (e := add64Entry) (by kernel_rfl), run_add64 x y 0 (by omega) (by omega) (by omega) (by omega)]
  simp only [Result.andThen]
  congr 5 <;> omega
end Go.Proofs.YtklebljckmkdlaaDoor
