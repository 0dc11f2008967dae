/- The reference's Value, Text and Hex, whole; the law NumDoes, walked. -/
import Derived.Test.YtklebljckmkdlaaDoorN14
import Derived.Lib.IndexBytes
namespace Go.Proofs.YtklebljckmkdlaaDoor
set_option linter.unusedVariables false
set_option linter.unusedSimpArgs false
open Go.RowKit

theorem pre_two (l : List UInt8) : Lib.hasPrefix l [48, 120] = true ↔ ∃ r, l = 48 :: 120 :: r := by
  unfold Lib.hasPrefix
  cases l with
  | nil => simp [List.isPrefixOf]
  | cons a l =>
    cases l with
    | nil => simp [List.isPrefixOf]
    | cons c l =>
      simp [List.isPrefixOf]
      constructor
      · rintro ⟨rfl, rfl⟩; exact ⟨rfl, rfl⟩
      · rintro ⟨rfl, rfl⟩; exact ⟨rfl, rfl⟩
theorem at_list (s : ByteArray) (k : Nat) (h : k < s.size) : s.data.toList[k]? = some (s[k]'h) := by
  rw [List.getElem?_eq_getElem (by rw [bytes_len]; exact h)]
  rfl
theorem two_list {l : List UInt8} (h0 : l[0]? = some 48) (h1 : l[1]? = some 120) : ∃ r, l = 48 :: 120 :: r := by
  match l, h0, h1 with
  | a :: c :: r, h0, h1 =>
    simp at h0 h1
    exact ⟨r, by rw [h0, h1]⟩
theorem refValue_any (s : ByteArray) (w : World) (hmax : s.size ≤ 2000000) :
    Calls Tryd.prog 9 #[.string s] w (Ret (two .u64 .i64 (valS s.data.toList)) w) := by
  have hl := bytes_len s
  by_cases hp : Lib.hasPrefix s.data.toList [48, 120] = true
  · obtain ⟨r, hr⟩ := (pre_two _).1 hp
    have h2 : 2 ≤ s.size := by rw [← hl, hr]; simp
    have a0 := at_list s 0 (by omega)
    have a1 := at_list s 1 (by omega)
    rw [hr] at a0 a1
    simp only [List.getElem?_cons_zero, List.getElem?_cons_succ, Option.some.injEq] at a0 a1
    have hd := Lib.extract_to_end s 2
    have hsz : s.size - 2 = (s.extract 2 s.size).size := by
      have e := bytes_len (s.extract 2 s.size)
      rw [hd, List.length_drop, hl] at e
      exact e
    have := rval16 s (s.extract 2 s.size) w h2 hmax (by rw [← a0]; rfl) (by rw [← a1]; rfl) rfl hsz (by omega)
    rw [hd] at this
    unfold valS
    rw [if_pos hp]
    exact this
  · unfold valS
    rw [if_neg hp]
    by_cases h2 : s.size < 2
    · exact rval10_0 s w hmax h2
    · have a0 := at_list s 0 (by omega)
      have a1 := at_list s 1 (by omega)
      by_cases q0 : (s[0]'(by omega)).toNat = 48
      · by_cases q1 : (s[1]'(by omega)).toNat = 120
        · exfalso
          apply hp
          have e0 : (s[0]'(by omega)) = 48 := UInt8.toNat_inj.1 q0
          have e1 : (s[1]'(by omega)) = 120 := UInt8.toNat_inj.1 q1
          rw [e0] at a0
          rw [e1] at a1
          refine (pre_two _).2 ?_
          exact two_list a0 a1
        · exact rval10_2 s w hmax (by omega) (by rw [beq_iff_eq]; omega) (by rw [beq_eq_false_iff_ne]; omega)
      · exact rval10_1 s w hmax (by omega) (by rw [beq_eq_false_iff_ne]; omega)

/-- What holds while a number is written. -/
def Inv (b u v : Nat) (L : List UInt8) : Prop := (L = [] ∧ v = u) ∨ (L ≠ [] ∧ (v = 0 → digL b u = L) ∧ (0 < v → digL b u = digL b v ++ L))
theorem Inv.next {b u v : Nat} {L : List UInt8} (hb : 2 ≤ b) (h : Inv b u v L) (hc : 0 < v ∨ L = []) : Inv b u (v / b) (dgB (v % b) :: L) := by
  have key : digL b u = digL b v ++ L := by
    rcases h with ⟨rfl, rfl⟩ | ⟨h1, h2, h3⟩
    · simp
    · rcases hc with hc | hc
      · exact h3 hc
      · exact (h1 hc).elim
  refine .inr ⟨by simp, fun h0 => ?_, fun h0 => ?_⟩
  · have hlt : v < b := by
      apply Classical.byContradiction
      intro hn
      have := Nat.div_pos (show b ≤ v by omega) (show 0 < b by omega)
      omega
    rw [key, digL_small hlt, Nat.mod_eq_of_lt hlt]; rfl
  · have hge : b ≤ v := by
      apply Classical.byContradiction
      intro hn
      rw [Nat.div_eq_of_lt (by omega)] at h0
      omega
    rw [key, digL_big hge hb]; simp
theorem Inv.len {b u v : Nat} {L : List UInt8} (h : Inv b u v L) (hl : (digL b u).length ≤ 20) : L.length ≤ 20 := by
  rcases h with ⟨rfl, -⟩ | ⟨h1, h2, h3⟩
  · simp
  · by_cases h0 : v = 0
    · rw [← h2 h0]; exact hl
    · rw [h3 (by omega), List.length_append] at hl; omega
def szOf : Value → Nat
  | .string s => s.size
  | _ => 0
def WRel (b u : Nat) (x out : Value) : Prop := ∃ (v : Nat) (O : ByteArray), x = .int .u64 v ∧ out = .string O ∧ v < 18446744073709551616 ∧ Inv b u v O.data.toList
abbrev hex16 : ByteArray := ⟨#[48, 49, 50, 51, 52, 53, 54, 55, 56, 57, 97, 98, 99, 100, 101, 102]⟩
theorem hex_ext : ∀ d : Fin 16, (hex16.extract d.val (d.val + 1)).data.toList = [dgB d.val] := by decide +kernel
theorem bytes_cat (a b : ByteArray) : (a ++ b).data.toList = a.data.toList ++ b.data.toList := by
  obtain ⟨a⟩ := a
  obtain ⟨b⟩ := b
  simp [ByteArray.mk_append_mk]

set_option maxHeartbeats 2000000 in
theorem write10_any (u : Nat) (w : World) (hu : u < 18446744073709551616) :
    Calls Tryd.prog 28 #[.int .u64 u, .int .u64 10] w (Ret (.string ⟨(digL 10 u).toArray⟩) w) := by
  have HLn := Lib.hid (dig10_len u hu)
  go_enter Tryd.func28, Tryd.ntmps28
  go_wp2
  go_loop [0, 6, 7] (fun x out _ => WRel 10 u x out) (fun x out _ => 2 * (intOf x).toNat + (1 - szOf out))
  case atStart => exact ⟨u, ⟨#[]⟩, rfl, rfl, hu, .inl ⟨rfl, rfl⟩⟩
  case round =>
    obtain ⟨v, O, rfl, rfl, hv, hinv⟩ := hrel
    have HI := Lib.hid hinv
    have hosz : O.size ≤ 20 := by rw [← bytes_len]; exact hinv.len HLn.out
    clear hinv
    have hdl : v % 10 < 16 := by omega
    obtain ⟨d, hd, HD⟩ : ∃ d : Nat, (v : Int) % 10 = (d : Int) ∧ Hid (d = v % 10) := ⟨v % 10, by omega, Lib.hid rfl⟩
    have hd16 : d < 16 := by omega
    have hx1 : ((⟨#[48, 49, 50, 51, 52, 53, 54, 55, 56, 57, 97, 98, 99, 100, 101, 102]⟩ : ByteArray).extract d (d + 1)).size ≤ 10 := by
      have h2 := congrArg List.length (hex_ext ⟨d, hd16⟩)
      rw [bytes_len] at h2
      exact Nat.le_trans (Nat.le_of_eq h2) (by simp)
    have HN : Hid (0 < v ∨ O.data.toList = [] → Inv 10 u (v / 10) ((⟨#[48, 49, 50, 51, 52, 53, 54, 55, 56, 57, 97, 98, 99, 100, 101, 102]⟩ : ByteArray).extract d (d + 1) ++ O).data.toList) := Lib.hid fun hc => by
      rw [bytes_cat]
      have h3 := hex_ext ⟨d, hd16⟩
      rw [show ((⟨#[48, 49, 50, 51, 52, 53, 54, 55, 56, 57, 97, 98, 99, 100, 101, 102]⟩ : ByteArray).extract d (d + 1)).data.toList = [dgB d] from h3, HD.out]
      exact HI.out.next (by decide) hc
    have HSz : Hid (0 < ((⟨#[48, 49, 50, 51, 52, 53, 54, 55, 56, 57, 97, 98, 99, 100, 101, 102]⟩ : ByteArray).extract d (d + 1) ++ O).size) := Lib.hid (by
      rw [← bytes_len, bytes_cat]
      rw [show ((⟨#[48, 49, 50, 51, 52, 53, 54, 55, 56, 57, 97, 98, 99, 100, 101, 102]⟩ : ByteArray).extract d (d + 1)).data.toList = [dgB d] from hex_ext ⟨d, hd16⟩]
      simp)
    by_cases hp : 0 < v
    · clear hdl
      go_wp2
      go_round
      case rel => exact ⟨v / 10, _, by congr 1, rfl, by omega, HN.out (.inl hp)⟩
      case measure => have := HSz.out; simp [intOf, szOf]; omega
    · obtain rfl : v = 0 := by omega
      by_cases ho : O.data.toList = []
      · have e1 : O.toList.isEmpty = true := by rw [Lib.toList_data, ho]; rfl
        have e2 : O.toList = [] := by rw [Lib.toList_data]; exact ho
        have hos : O.size = 0 := by rw [← bytes_len, ho]; rfl
        have HOs := Lib.hid hos
        have HOl := Lib.hid ho
        obtain rfl : d = 0 := by have := HD.out; simpa using this
        clear hdl hos ho hd
        go_wp2
        go_round
        case rel => exact ⟨0, _, rfl, rfl, by omega, HN.out (.inr HOl.out)⟩
        case measure =>
          have h1 := HSz.out
          have h2 := HOs.out
          show 2 * (0 : Int).toNat + (1 - ((⟨#[48, 49, 50, 51, 52, 53, 54, 55, 56, 57, 97, 98, 99, 100, 101, 102]⟩ : ByteArray).extract 0 (0 + 1) ++ O).size) < 2 * (0 : Int).toNat + (1 - O.size)
          omega
      · have e1 : O.toList.isEmpty = false := by rw [Lib.toList_data]; exact List.isEmpty_eq_false_iff.2 ho
        have e2 : (O.toList = []) = False := by rw [Lib.toList_data]; exact eq_false ho
        have HF : Hid (O = ⟨(digL 10 u).toArray⟩) := Lib.hid (by
          rcases HI.out with ⟨h1, -⟩ | ⟨-, h2, -⟩
          · exact (ho h1).elim
          · rw [h2 rfl])
        clear hdl ho hd
        go_wp2
        go_ret
        exact ⟨by rw [← HF.out]; rfl, rfl⟩

set_option maxHeartbeats 2000000 in
theorem write16_any (u : Nat) (w : World) (hu : u < 18446744073709551616) :
    Calls Tryd.prog 28 #[.int .u64 u, .int .u64 16] w (Ret (.string ⟨(digL 16 u).toArray⟩) w) := by
  have HLn := Lib.hid (Nat.le_trans (dig16_len u hu) (show 16 ≤ 20 by decide))
  go_enter Tryd.func28, Tryd.ntmps28
  go_wp2
  go_loop [0, 6, 7] (fun x out _ => WRel 16 u x out) (fun x out _ => 2 * (intOf x).toNat + (1 - szOf out))
  case atStart => exact ⟨u, ⟨#[]⟩, rfl, rfl, hu, .inl ⟨rfl, rfl⟩⟩
  case round =>
    obtain ⟨v, O, rfl, rfl, hv, hinv⟩ := hrel
    have HI := Lib.hid hinv
    have hosz : O.size ≤ 20 := by rw [← bytes_len]; exact hinv.len HLn.out
    clear hinv
    have hdl : v % 16 < 16 := by omega
    obtain ⟨d, hd, HD⟩ : ∃ d : Nat, (v : Int) % 16 = (d : Int) ∧ Hid (d = v % 16) := ⟨v % 16, by omega, Lib.hid rfl⟩
    have hd16 : d < 16 := by omega
    have hx1 : ((⟨#[48, 49, 50, 51, 52, 53, 54, 55, 56, 57, 97, 98, 99, 100, 101, 102]⟩ : ByteArray).extract d (d + 1)).size ≤ 10 := by
      have h2 := congrArg List.length (hex_ext ⟨d, hd16⟩)
      rw [bytes_len] at h2
      exact Nat.le_trans (Nat.le_of_eq h2) (by simp)
    have HN : Hid (0 < v ∨ O.data.toList = [] → Inv 16 u (v / 16) ((⟨#[48, 49, 50, 51, 52, 53, 54, 55, 56, 57, 97, 98, 99, 100, 101, 102]⟩ : ByteArray).extract d (d + 1) ++ O).data.toList) := Lib.hid fun hc => by
      rw [bytes_cat]
      have h3 := hex_ext ⟨d, hd16⟩
      rw [show ((⟨#[48, 49, 50, 51, 52, 53, 54, 55, 56, 57, 97, 98, 99, 100, 101, 102]⟩ : ByteArray).extract d (d + 1)).data.toList = [dgB d] from h3, HD.out]
      exact HI.out.next (by decide) hc
    have HSz : Hid (0 < ((⟨#[48, 49, 50, 51, 52, 53, 54, 55, 56, 57, 97, 98, 99, 100, 101, 102]⟩ : ByteArray).extract d (d + 1) ++ O).size) := Lib.hid (by
      rw [← bytes_len, bytes_cat]
      rw [show ((⟨#[48, 49, 50, 51, 52, 53, 54, 55, 56, 57, 97, 98, 99, 100, 101, 102]⟩ : ByteArray).extract d (d + 1)).data.toList = [dgB d] from hex_ext ⟨d, hd16⟩]
      simp)
    by_cases hp : 0 < v
    · clear hdl
      go_wp2
      go_round
      case rel => exact ⟨v / 16, _, by congr 1, rfl, by omega, HN.out (.inl hp)⟩
      case measure => have := HSz.out; simp [intOf, szOf]; omega
    · obtain rfl : v = 0 := by omega
      by_cases ho : O.data.toList = []
      · have e1 : O.toList.isEmpty = true := by rw [Lib.toList_data, ho]; rfl
        have e2 : O.toList = [] := by rw [Lib.toList_data]; exact ho
        have hos : O.size = 0 := by rw [← bytes_len, ho]; rfl
        have HOs := Lib.hid hos
        have HOl := Lib.hid ho
        obtain rfl : d = 0 := by have := HD.out; simpa using this
        clear hdl hos ho hd
        go_wp2
        go_round
        case rel => exact ⟨0, _, rfl, rfl, by omega, HN.out (.inr HOl.out)⟩
        case measure =>
          have h1 := HSz.out
          have h2 := HOs.out
          show 2 * (0 : Int).toNat + (1 - ((⟨#[48, 49, 50, 51, 52, 53, 54, 55, 56, 57, 97, 98, 99, 100, 101, 102]⟩ : ByteArray).extract 0 (0 + 1) ++ O).size) < 2 * (0 : Int).toNat + (1 - O.size)
          omega
      · have e1 : O.toList.isEmpty = false := by rw [Lib.toList_data]; exact List.isEmpty_eq_false_iff.2 ho
        have e2 : (O.toList = []) = False := by rw [Lib.toList_data]; exact eq_false ho
        have HF : Hid (O = ⟨(digL 16 u).toArray⟩) := Lib.hid (by
          rcases HI.out with ⟨h1, -⟩ | ⟨-, h2, -⟩
          · exact (ho h1).elim
          · rw [h2 rfl])
        clear hdl ho hd
        go_wp2
        go_ret
        exact ⟨by rw [← HF.out]; rfl, rfl⟩

theorem refText_any (u : Nat) (w : World) (hu : u < 18446744073709551616) : Calls Tryd.prog 18 #[.int .u64 u] w (Ret (.string (textB u)) w) := by
  have HW : Hid (∀ w, Calls Tryd.prog 28 #[.int .u64 u, .int .u64 10] w (Ret (.string (textB u)) w)) := Lib.hid fun w => write10_any u w hu
  go_enter Tryd.func18, Tryd.ntmps18
  go_wp2_with (first | (go_at_call 28; ((with_reducible refine (HW.out _).mono ?_); rintro e w' ⟨rfl, rfl⟩)))
  go_ret
  exact ⟨rfl, rfl⟩
theorem refHex_any (u : Nat) (w : World) (hu : u < 18446744073709551616) : Calls Tryd.prog 20 #[.int .u64 u] w (Ret (.string (hexB u)) w) := by
  obtain ⟨D, hD, HW⟩ : ∃ D : ByteArray, D = ⟨(digL 16 u).toArray⟩ ∧ Hid (∀ w, Calls Tryd.prog 28 #[.int .u64 u, .int .u64 16] w (Ret (.string D) w)) := ⟨_, rfl, Lib.hid fun w => write16_any u w hu⟩
  have HE : Hid ((⟨#[48, 120]⟩ : ByteArray) ++ D = hexB u) := Lib.hid (by rw [hD]; exact hex_cat u)
  have hsz : D.size ≤ 16 := by rw [hD]; exact dig16_len u hu
  clear hD
  go_enter Tryd.func20, Tryd.ntmps20
  go_wp2_with (first | (go_at_call 28; ((with_reducible refine (HW.out _).mono ?_); rintro e w' ⟨rfl, rfl⟩)))
  go_ret
  exact ⟨by rw [← HE.out]; rfl, rfl⟩

set_option maxRecDepth 100000 in
set_option maxHeartbeats 2000000 in
theorem NumDoes_walk (s : ByteArray) (hs : s.size ≤ maxLen) (v : Int) (hv : 0 ≤ v ∧ v < 18446744073709551616) (m : Bool) (n : Int) (hn : -9223372036854775808 ≤ n ∧ n ≤ 9223372036854775807) (w : World) (hT : Tab w) :
    Calls Tryd.prog 3 #[.string s, .int .u64 v, .bool m, .int .i64 n] w (RetB (.bool true) w) := by
  have HT := Lib.hid hT
  have HB := Lib.hid (Below.refl w.heap.size w)
  unfold maxLen at hs
  by_cases hg : 300 < s.size
  · clear hT
    go_enter Tryd.func3, Tryd.ntmps3
    go_wp2
    go_ret
    exact ⟨rfl, HB.out⟩
  obtain ⟨hv0, hv1⟩ := hv
  obtain ⟨hn0, hn1⟩ := hn
  obtain ⟨u, rfl⟩ := Int.eq_ofNat_of_zero_le hv0
  have hu : u < 18446744073709551616 := by omega
  have hsz : s.size ≤ 300 := by omega
  have HC : Hid (∀ w, Tab w → Calls Tryd.prog 16 #[] w (RetB (.bool true) w)) := Lib.hid fun w h => counted_any w h
  have V1 : Hid (∀ w, Calls Tryd.prog 8 #[.string s] w (RetB (two .u64 .i64 (valS s.data.toList)) w)) := Lib.hid fun w => Value_any s w
  have V2 : Hid (∀ w, Calls Tryd.prog 9 #[.string s] w (Ret (two .u64 .i64 (valS s.data.toList)) w)) := Lib.hid fun w => refValue_any s w (by omega)
  have S1 : Hid (∀ w, Calls Tryd.prog 10 #[.bool m, .int .u64 u] w (Ret (two .i64 .i64 (signS m u)) w)) := Lib.hid fun w => Signed_any m u w hv0 hv1
  have S2 : Hid (∀ w, Calls Tryd.prog 11 #[.bool m, .int .u64 u] w (Ret (two .i64 .i64 (signS m u)) w)) := Lib.hid fun w => refSigned_any m u w hv0 hv1
  have O1 : Hid (∀ w, Calls Tryd.prog 12 #[.int .i64 n] w (Ret (.tuple #[.bool (decide (n < 0)), .int .u64 (farS n)]) w)) := Lib.hid fun w => Of_any n w hn0 hn1
  have O2 : Hid (∀ w, Calls Tryd.prog 13 #[.int .i64 n] w (Ret (.tuple #[.bool (decide (n < 0)), .int .u64 (farS n)]) w)) := Lib.hid fun w => refOf_any n w hn0 hn1
  have M1 : Hid (∀ w, Calls Tryd.prog 14 #[.int .u64 u, .int .i64 n] w (Ret (two .u64 .i64 (sumS u n)) w)) := Lib.hid fun w => Sum_any u n w hv0 hv1 hn0 hn1
  have M2 : Hid (∀ w, Calls Tryd.prog 15 #[.int .u64 u, .int .i64 n] w (Ret (two .u64 .i64 (sumS u n)) w)) := Lib.hid fun w => refSum_any u n w hv0 hv1 hn0 hn1
  have T1 : Hid (∀ w, Tab w → Calls Tryd.prog 17 #[.int .u64 u] w (RetB (.string (textB u)) w)) := Lib.hid fun w h => Text_any u w hu h
  have T2 : Hid (∀ w, Calls Tryd.prog 18 #[.int .u64 u] w (Ret (.string (textB u)) w)) := Lib.hid fun w => refText_any u w hu
  have X1 : Hid (∀ w, Tab w → Calls Tryd.prog 19 #[.int .u64 u] w (RetB (.string (hexB u)) w)) := Lib.hid fun w h => Hex_any u w hu h
  have X2 : Hid (∀ w, Calls Tryd.prog 20 #[.int .u64 u] w (Ret (.string (hexB u)) w)) := Lib.hid fun w => refHex_any u w hu
  clear hT
  generalize valS s.data.toList = a at *
  generalize signS m u = c at *
  generalize farS n = f at *
  generalize decide (n < 0) = g at *
  generalize sumS u n = p at *
  generalize textB u = t at *
  generalize hexB u = x at *
  clear hv0 hv1 hn0 hn1 hu hs hg
  obtain ⟨a1, a2⟩ := a
  obtain ⟨c1, c2⟩ := c
  obtain ⟨p1, p2⟩ := p
  go_enter Tryd.func3, Tryd.ntmps3
  go_wp2_with (first | (go_at_call 8; ((with_reducible refine (V1.out _).mono ?_); rintro e w' ⟨rfl, hb⟩; replace HB := Lib.hid (after HB.out hb); clear hb)) | (go_at_call 9; ((with_reducible refine (V2.out _).mono ?_); rintro e w' ⟨rfl, rfl⟩)) | (go_at_call 10; ((with_reducible refine (S1.out _).mono ?_); rintro e w' ⟨rfl, rfl⟩)) | (go_at_call 11; ((with_reducible refine (S2.out _).mono ?_); rintro e w' ⟨rfl, rfl⟩)) | (go_at_call 12; ((with_reducible refine (O1.out _).mono ?_); rintro e w' ⟨rfl, rfl⟩)) | (go_at_call 13; ((with_reducible refine (O2.out _).mono ?_); rintro e w' ⟨rfl, rfl⟩)) | (go_at_call 14; ((with_reducible refine (M1.out _).mono ?_); rintro e w' ⟨rfl, rfl⟩)) | (go_at_call 15; ((with_reducible refine (M2.out _).mono ?_); rintro e w' ⟨rfl, rfl⟩)) | (go_at_call 17; ((with_reducible refine (T1.out _ (HT.out.below HB.out)).mono ?_); rintro e w' ⟨rfl, hb⟩; replace HB := Lib.hid (after HB.out hb); clear hb)) | (go_at_call 18; ((with_reducible refine (T2.out _).mono ?_); rintro e w' ⟨rfl, rfl⟩)) | (go_at_call 19; ((with_reducible refine (X1.out _ (HT.out.below HB.out)).mono ?_); rintro e w' ⟨rfl, hb⟩; replace HB := Lib.hid (after HB.out hb); clear hb)) | (go_at_call 20; ((with_reducible refine (X2.out _).mono ?_); rintro e w' ⟨rfl, rfl⟩)) | (go_at_call 16; ((with_reducible refine (HC.out _ (HT.out.below HB.out)).mono ?_); rintro e w' ⟨rfl, hb⟩; replace HB := Lib.hid (after HB.out hb); clear hb)))
  go_ret
  exact retB_bool (by first | rfl | (simp; done)) HB.out
end Go.Proofs.YtklebljckmkdlaaDoor
