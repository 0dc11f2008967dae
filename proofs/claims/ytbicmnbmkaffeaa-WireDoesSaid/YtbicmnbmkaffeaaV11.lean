/- The law WireDoes, walked. -/
import Derived.Test.YtbicmnbmkaffeaaV10
namespace Go.Proofs.Ytbicmnbmkaffeaa
set_option linter.unusedVariables false
set_option linter.unusedSimpArgs false
open Go.RowKit

theorem gv_eq (r : Nat × Nat × Nat) : ∃ a b c : Nat, gv r = .tuple #[.int .u64 (a : Int), .int .i64 (b : Int), .int .i64 (c : Int)] := ⟨_, _, _, rfl⟩
theorem iv_eq (r : Int × Nat × Nat) : ∃ (a : Int) (b c : Nat), iv r = .tuple #[.int .i64 a, .int .i64 (b : Int), .int .i64 (c : Int)] := ⟨_, _, _, rfl⟩
theorem tv_eq (r : ByteArray × Nat × Nat) : ∃ (a : ByteArray) (b c : Nat), tv r = .tuple #[.string a, .int .i64 (b : Int), .int .i64 (c : Int)] := ⟨_, _, _, rfl⟩

set_option maxRecDepth 100000 in
set_option maxHeartbeats 4000000 in
theorem WireDoes_walk (v : Int) (hv : 0 ≤ v ∧ v < 18446744073709551616) (n : Int) (hn : -9223372036854775808 ≤ n ∧ n ≤ 9223372036854775807) (s : ByteArray) (hs : s.size ≤ reachBytes) (k : Int) (hk : -9223372036854775808 ≤ k ∧ k ≤ 9223372036854775807) (w : World) :
    Calls Try.prog 7 #[.int .u64 v, .int .i64 n, .string s, .int .i64 k] w (RetB (.bool true) w) := by
  have HB := Lib.hid (Below.refl w.heap.size w)
  have rb : reachBytes < 140737488355328 := reachBytes_lt
  have hs' : s.size < 140737488355328 := by omega
  clear hs rb
  obtain ⟨v, rfl⟩ : ∃ k : Nat, v = k := ⟨v.toNat, by omega⟩
  by_cases big : 2000 < s.size
  · clear hv hn hk
    go_enter Try.func7, Try.ntmps7
    go_wp2
    go_ret
    exact ⟨rfl, HB.out⟩
  · have big' : s.size ≤ 2000 := by omega
    have hm : s.size ≤ maxLen := by unfold maxLen; omega
    have C1 : Hid (∀ w, Calls Try.prog 26 #[] w (RetB (.bool true) w)) := Lib.hid fun w => sent_any w
    have P1 : Hid (∀ w, Calls Try.prog 27 #[.int .u64 v] w (RetB (.string (putB v)) w)) := Lib.hid fun w => Put_at v v rfl (by omega) w
    have P2 : Hid (∀ w, Calls Try.prog 29 #[.int .i64 n] w (RetB (.string (putB (zig n))) w)) := Lib.hid fun w => PutInt_any n hn.1 hn.2 w
    have P3 : Hid (∀ w, Calls Try.prog 31 #[.string s] w (RetB (.string (textB s)) w)) := Lib.hid fun w => PutText_any s (by omega) w
    have R1 : Hid (∀ w, Calls Try.prog 28 #[.int .u64 v] w (RetB (.string (putB v)) w)) := Lib.hid fun w => refPut_any v (by omega) w
    have R2 : Hid (∀ w, Calls Try.prog 30 #[.int .i64 n] w (RetB (.string (putB (zig n))) w)) := Lib.hid fun w => refPutInt_any n hn.1 hn.2 w
    have R3 : Hid (∀ w, Calls Try.prog 32 #[.string s] w (RetB (.string (textB s)) w)) := Lib.hid fun w => refPutText_any s big' w
    obtain ⟨a1, a2, a3, ea⟩ := gv_eq (getL s.data.toList)
    obtain ⟨b1, b2, b3, eb⟩ := iv_eq (geti s.data.toList)
    obtain ⟨c1, c2, c3, ec⟩ := tv_eq (getT s k)
    have G1 : Hid (∀ w, Calls Try.prog 20 #[.string s] w (Ret (.tuple #[.int .u64 (a1 : Int), .int .i64 (a2 : Int), .int .i64 (a3 : Int)]) w)) := Lib.hid fun w => by rw [← ea]; exact Get_any s w hm
    have G2 : Hid (∀ w, Calls Try.prog 22 #[.string s] w (Ret (.tuple #[.int .i64 b1, .int .i64 (b2 : Int), .int .i64 (b3 : Int)]) w)) := Lib.hid fun w => by rw [← eb]; exact GetInt_any s w hm
    have G3 : Hid (∀ w, Calls Try.prog 24 #[.string s, .int .i64 k] w (Ret (.tuple #[.string c1, .int .i64 (c2 : Int), .int .i64 (c3 : Int)]) w)) := Lib.hid fun w => by rw [← ec]; exact GetText_any s k hk.1 hk.2 w hm
    have Q1 : Hid (∀ w, Calls Try.prog 21 #[.string s] w (Ret (.tuple #[.int .u64 (a1 : Int), .int .i64 (a2 : Int), .int .i64 (a3 : Int)]) w)) := Lib.hid fun w => by rw [← ea]; exact refGet_any s w big'
    have Q2 : Hid (∀ w, Calls Try.prog 23 #[.string s] w (Ret (.tuple #[.int .i64 b1, .int .i64 (b2 : Int), .int .i64 (b3 : Int)]) w)) := Lib.hid fun w => by rw [← eb]; exact refGetInt_any s w big'
    have Q3 : Hid (∀ w, Calls Try.prog 25 #[.string s, .int .i64 k] w (Ret (.tuple #[.string c1, .int .i64 (c2 : Int), .int .i64 (c3 : Int)]) w)) := Lib.hid fun w => by rw [← ec]; exact refGetText_any s k hk.1 hk.2 w big'
    clear big hv hn hk hs' hm ea eb ec
    generalize putB v = X at *
    generalize putB (zig n) = Y at *
    generalize textB s = Z at *
    go_enter Try.func7, Try.ntmps7
    go_wp2_with (first | (go_at_call 20; ((with_reducible refine (G1.out _).mono ?_); rintro e w' ⟨rfl, rfl⟩)) | (go_at_call 22; ((with_reducible refine (G2.out _).mono ?_); rintro e w' ⟨rfl, rfl⟩)) | (go_at_call 24; ((with_reducible refine (G3.out _).mono ?_); rintro e w' ⟨rfl, rfl⟩)) | (go_at_call 21; ((with_reducible refine (Q1.out _).mono ?_); rintro e w' ⟨rfl, rfl⟩)) | (go_at_call 23; ((with_reducible refine (Q2.out _).mono ?_); rintro e w' ⟨rfl, rfl⟩)) | (go_at_call 25; ((with_reducible refine (Q3.out _).mono ?_); rintro e w' ⟨rfl, rfl⟩)) | (go_at_call 27; ((with_reducible refine (P1.out _).mono ?_); rintro e w' ⟨rfl, hb⟩; replace HB := Lib.hid (after HB.out hb); clear hb)) | (go_at_call 29; ((with_reducible refine (P2.out _).mono ?_); rintro e w' ⟨rfl, hb⟩; replace HB := Lib.hid (after HB.out hb); clear hb)) | (go_at_call 31; ((with_reducible refine (P3.out _).mono ?_); rintro e w' ⟨rfl, hb⟩; replace HB := Lib.hid (after HB.out hb); clear hb)) | (go_at_call 28; ((with_reducible refine (R1.out _).mono ?_); rintro e w' ⟨rfl, hb⟩; replace HB := Lib.hid (after HB.out hb); clear hb)) | (go_at_call 30; ((with_reducible refine (R2.out _).mono ?_); rintro e w' ⟨rfl, hb⟩; replace HB := Lib.hid (after HB.out hb); clear hb)) | (go_at_call 32; ((with_reducible refine (R3.out _).mono ?_); rintro e w' ⟨rfl, hb⟩; replace HB := Lib.hid (after HB.out hb); clear hb)) | (go_at_call 26; ((with_reducible refine (C1.out _).mono ?_); rintro e w' ⟨rfl, hb⟩; replace HB := Lib.hid (after HB.out hb); clear hb)))
    go_ret
    exact ⟨rfl, HB.out⟩
end Go.Proofs.Ytbicmnbmkaffeaa
