/- lex: the document's rows. -/
import Derived.Test.YtngoipcjipbelaaDoorLN
namespace Go.Proofs.YtngoipcjipbelaaDoor
set_option linter.unusedVariables false
set_option linter.unusedSimpArgs false
open Go.ChangeShapes Go.WideShapes Go.Deep Go.RowKit

/-- A text of bytes below 128 has these as its runes. -/
theorem U_low {s : ByteArray} {l : List UInt8} (h : s.data.toList = l) (hl : (l.all fun b => decide (b.toNat < 128)) = true) : U s.data.toList (l.map UInt8.toNat) := by
  rw [h]
  refine U.ascii fun b hb => ?_
  rw [List.all_eq_true] at hl
  exact of_decide_eq_true (hl b hb)
abbrev x1T : List Tk := [⟨1, [97, 100, 100], 0⟩, ⟨1, [120, 49], 0⟩, ⟨4, [44], 0⟩, ⟨4, [35], 0⟩, ⟨5, [], 97⟩]
abbrev x2T : List Tk := [⟨2, [49, 102], 0⟩, ⟨3, [97, 10], 0⟩]
theorem x1L : lineL [97, 100, 100, 32, 120, 49, 44, 32, 35, 39, 97, 39, 32, 47, 47, 32, 98] = some x1T := by kernel_rfl
theorem x2L : lineL [49, 102, 32, 34, 97, 92, 110, 34] = some x2T := by kernel_rfl
theorem x3L : lineL [97, 32, 59, 32, 98] = none := by kernel_rfl
theorem x4L : lineL [34, 97] = none := by kernel_rfl
/-- A row of tokens is handed back. -/
def RetTs (ts : List Tk) (w : World) (e : Ending) (w' : World) : Prop := ∃ a c, e = .returned (.tuple #[.slice a ts.length c, .int .i64 0]) ∧ SL tkC 3 w' w'.heap.size a ts.length ts ∧ ((a = none → ts.length = 0 ∧ c = 0) ∧ ts.length ≤ c) ∧ Below w.heap.size w w'
theorem Line_yes (s : ByteArray) {rs : List Nat} (hu : U s.data.toList rs) (hs : s.size ≤ 200) {ts : List Tk} (hl : lineL rs = some ts) (w : World) (hT : Tab w) : Calls Tryd.prog 16 #[.string s] w (RetTs ts w) := by
  refine (Line_any s rs hu hs w hT).mono ?_
  intro e w' h
  unfold LineP at h
  rw [hl] at h
  exact h
theorem Line_no (s : ByteArray) {rs : List Nat} (hu : U s.data.toList rs) (hs : s.size ≤ 200) (hl : lineL rs = none) (w : World) (hT : Tab w) : Calls Tryd.prog 16 #[.string s] w (RetB (.tuple #[.slice none 0 0, .int .i64 3]) w) := by
  refine (Line_any s rs hu hs w hT).mono ?_
  intro e w' h
  unfold LineP at h
  rw [hl] at h
  exact h
abbrev s1 : ByteArray := ⟨#[97, 100, 100, 32, 120, 49, 44, 32, 35, 39, 97, 39, 32, 47, 47, 32, 98]⟩
abbrev s2 : ByteArray := ⟨#[49, 102, 32, 34, 97, 92, 110, 34]⟩
abbrev s3 : ByteArray := ⟨#[97, 32, 59, 32, 98]⟩
abbrev s4 : ByteArray := ⟨#[34, 97]⟩
abbrev s5 : ByteArray := ⟨#[97, 10]⟩
abbrev s6 : ByteArray := ⟨#[97, 195, 164]⟩
abbrev s7 : ByteArray := ⟨#[255]⟩
theorem rd1 (w : World) (h : Tab w) : Calls Tryd.prog 16 #[.string s1] w (RetTs x1T w) := Line_yes s1 (rs := [97, 100, 100, 32, 120, 49, 44, 32, 35, 39, 97, 39, 32, 47, 47, 32, 98]) (U_low (l := s1.data.toList) rfl (by decide +kernel)) (by decide) x1L w h
theorem rd2 (w : World) (h : Tab w) : Calls Tryd.prog 16 #[.string s2] w (RetTs x2T w) := Line_yes s2 (rs := [49, 102, 32, 34, 97, 92, 110, 34]) (U_low (l := s2.data.toList) rfl (by decide +kernel)) (by decide) x2L w h
theorem rd3 (w : World) (h : Tab w) : Calls Tryd.prog 16 #[.string s3] w (RetB (.tuple #[.slice none 0 0, .int .i64 3]) w) := Line_no s3 (rs := [97, 32, 59, 32, 98]) (U_low (l := s3.data.toList) rfl (by decide +kernel)) (by decide) x3L w h
theorem rd4 (w : World) (h : Tab w) : Calls Tryd.prog 16 #[.string s4] w (RetB (.tuple #[.slice none 0 0, .int .i64 3]) w) := Line_no s4 (rs := [34, 97]) (U_low (l := s4.data.toList) rfl (by decide +kernel)) (by decide) x4L w h
theorem q5 : bytesOf (quoteL [97, 10]) = ⟨#[34, 97, 92, 110, 34]⟩ := by kernel_rfl
theorem rd5 (w : World) (h : Tab w) : Calls Tryd.prog 14 #[.string s5] w (RetB (.tuple #[.string ⟨#[34, 97, 92, 110, 34]⟩, .int .i64 0]) w) := by
  have := Quote_any s5 [97, 10] (U_low (l := s5.data.toList) rfl (by decide +kernel)) (by decide) w h
  unfold QuoteP at this
  rw [show [97, 10].all quoR = true by decide, if_pos rfl, q5] at this
  exact this
theorem u6 : U s6.data.toList [97, 228] := ⟨by decide +kernel, by intro r hr; simp at hr; rcases hr with rfl | rfl <;> exact .inl (by omega)⟩
theorem rd6 (w : World) (h : Tab w) : Calls Tryd.prog 18 #[.string s6] w (RunesP [97, 228] w) := Runes_yes s6 [97, 228] u6 (by decide) w h
theorem rd7 (w : World) (h : Tab w) : Calls Tryd.prog 18 #[.string s7] w (RetB (.tuple #[.slice none 0 0, .int .i64 3]) w) := Runes_no s7 (by decide +kernel) (by decide) w h
abbrev s8 : ByteArray := ⟨#[98, 46, 101, 113]⟩
theorem rd8 (w : World) : Calls Tryd.prog 19 #[.string s8] w (RetB (.bool true) w) := by
  have := IsWord_any s8 (by decide) w
  rwa [show isWordL s8.data.toList = true by decide +kernel] at this
theorem rd9 (w : World) : Calls Tryd.prog 19 #[.string ⟨#[49, 102]⟩] w (RetB (.bool false) w) := by
  have := IsWord_any ⟨#[49, 102]⟩ (by decide) w
  rwa [show isWordL (⟨#[49, 102]⟩ : ByteArray).data.toList = false by decide +kernel] at this
theorem SL.lit_at (w : World) (ts : List Tk) (cs : Array Value) (hcs : cs.toList = ts.flatMap tkC) :
    SL tkC 3 (w.alloc (.cells cs 31)) (w.alloc (.cells cs 31)).heap.size (some ⟨w.heap.size, 0, none⟩) ts.length ts := by
  have := SL.lit (enc := tkC) (sz := 3) w 31 ts tkC_len (by omega) cs hcs ts.length rfl
  rwa [show w.heap.size + 1 = (w.alloc (.cells cs 31)).heap.size from by simp] at this
set_option maxRecDepth 100000 in
set_option maxHeartbeats 4000000 in
theorem read_any (w : World) (h : Tab w) : Calls Tryd.prog 15 #[] w (RetB (.bool true) w) := by
  have HT := Lib.hid h
  clear h
  go_enter Tryd.func15, Tryd.ntmps15
  go_wp2_with fail
  refine (rd1 _ HT.out).mono ?_
  rintro e w1 ⟨a1, c1, rfl, hs1, -, hb1⟩
  have HS1 := Lib.hid hs1
  have HB1 := Lib.hid hb1
  clear hs1 hb1
  go_wp2_with fail
  refine (rd2 _ (HT.out.next HB1.out)).mono ?_
  rintro e w2 ⟨a2, c2, rfl, hs2, -, hb2⟩
  have HS2 := Lib.hid hs2
  have HB2 := Lib.hid (after HB1.out hb2)
  replace HS1 := Lib.hid (HS1.out.next hb2)
  clear hs2 hb2
  go_wp2_with fail
  refine (rd3 _ (HT.out.next HB2.out)).mono ?_
  rintro e w3 ⟨rfl, hb3⟩
  have HB3 := Lib.hid (after HB2.out hb3)
  replace HS1 := Lib.hid (HS1.out.next hb3)
  replace HS2 := Lib.hid (HS2.out.next hb3)
  clear hb3
  go_wp2_with fail
  refine (rd4 _ (HT.out.next HB3.out)).mono ?_
  rintro e w4 ⟨rfl, hb4⟩
  have HB4 := Lib.hid (after HB3.out hb4)
  replace HS1 := Lib.hid (HS1.out.next hb4)
  replace HS2 := Lib.hid (HS2.out.next hb4)
  clear hb4
  go_wp2_with fail
  refine (rd5 _ (HT.out.next HB4.out)).mono ?_
  rintro e w5 ⟨rfl, hb5⟩
  have HB5 := Lib.hid (after HB4.out hb5)
  replace HS1 := Lib.hid (HS1.out.next hb5)
  replace HS2 := Lib.hid (HS2.out.next hb5)
  clear hb5
  go_wp2_with fail
  refine (rd6 _ (HT.out.next HB5.out)).mono ?_
  rintro e w6 ⟨a6, c6, rfl, hs6, -, hb6⟩
  have HS6 := Lib.hid hs6
  have HB6 := Lib.hid (after HB5.out hb6)
  replace HS1 := Lib.hid (HS1.out.next hb6)
  replace HS2 := Lib.hid (HS2.out.next hb6)
  clear hs6 hb6
  go_wp2_with fail
  refine (rd7 _ (HT.out.next HB6.out)).mono ?_
  rintro e w7 ⟨rfl, hb7⟩
  have HB7 := Lib.hid (after HB6.out hb7)
  replace HS1 := Lib.hid (HS1.out.next hb7)
  replace HS2 := Lib.hid (HS2.out.next hb7)
  replace HS6 := Lib.hid (HS6.out.next hb7)
  clear hb7
  go_wp2_with fail
  have hL := SL.lit_at w7 x1T #[.int .i64 1, .string ⟨#[97, 100, 100]⟩, .int .u64 0, .int .i64 1, .string ⟨#[120, 49]⟩, .int .u64 0, .int .i64 4, .string ⟨#[44]⟩, .int .u64 0, .int .i64 4, .string ⟨#[35]⟩, .int .u64 0, .int .i64 5, .string ⟨#[]⟩, .int .u64 97] rfl
  have hA := (Below.refl w7.heap.size w7).alloc (Nat.le_refl _) (.cells #[.int .i64 1, .string ⟨#[97, 100, 100]⟩, .int .u64 0, .int .i64 1, .string ⟨#[120, 49]⟩, .int .u64 0, .int .i64 4, .string ⟨#[44]⟩, .int .u64 0, .int .i64 4, .string ⟨#[35]⟩, .int .u64 0, .int .i64 5, .string ⟨#[]⟩, .int .u64 97] 31)
  refine (Same_is a1 (some ⟨w7.heap.size, 0, none⟩) 5 5 c1 5 x1T _ (by omega) (by omega) (HS1.out.next hA) hL).mono ?_
  rintro e w8 ⟨rfl, hb8⟩
  have HB8 := Lib.hid (after (after HB7.out hA) hb8)
  replace HS2 := Lib.hid ((HS2.out.next hA).next hb8)
  replace HS6 := Lib.hid ((HS6.out.next hA).next hb8)
  clear hL hA hb8
  go_wp2_with fail
  have hL := SL.lit_at w8 x2T #[.int .i64 2, .string ⟨#[49, 102]⟩, .int .u64 0, .int .i64 3, .string ⟨#[97, 10]⟩, .int .u64 0] rfl
  have hA := (Below.refl w8.heap.size w8).alloc (Nat.le_refl _) (.cells #[.int .i64 2, .string ⟨#[49, 102]⟩, .int .u64 0, .int .i64 3, .string ⟨#[97, 10]⟩, .int .u64 0] 31)
  refine (Same_is a2 (some ⟨w8.heap.size, 0, none⟩) 2 2 c2 2 x2T _ (by omega) (by omega) (HS2.out.next hA) hL).mono ?_
  rintro e w9 ⟨rfl, hb9⟩
  have HB9 := Lib.hid (after (after HB8.out hA) hb9)
  replace HS6 := Lib.hid ((HS6.out.next hA).next hb9)
  clear hL hA hb9
  go_wp2_with fail
  have hL : SL runC 1 (w9.alloc (.cells #[.int .i64 97, .int .i64 228] 3)) (w9.alloc (.cells #[.int .i64 97, .int .i64 228] 3)).heap.size (some ⟨w9.heap.size, 0, none⟩) 2 [97, 228] := by
    have := SL.lit (enc := runC) (sz := 1) w9 3 [97, 228] runC_len (by omega) #[.int .i64 97, .int .i64 228] rfl 2 rfl
    rwa [show w9.heap.size + 1 = (w9.alloc (.cells #[.int .i64 97, .int .i64 228] 3)).heap.size from by simp] at this
  have hA := (Below.refl w9.heap.size w9).alloc (Nat.le_refl _) (.cells #[.int .i64 97, .int .i64 228] 3)
  refine (Ints_any a6 (some ⟨w9.heap.size, 0, none⟩) 2 2 c6 2 [97, 228] [97, 228] _ (by omega) (by omega) (HS6.out.next hA) hL).mono ?_
  rintro e w10 ⟨rfl, hb10⟩
  have HB10 := Lib.hid (after (after HB9.out hA) hb10)
  clear hL hA hb10
  rw [show decide (([97, 228] : List Nat) = [97, 228]) = true by decide]
  go_wp2_with fail
  refine (rd8 _).mono ?_
  rintro e w11 ⟨rfl, hb11⟩
  have HB11 := Lib.hid (after HB10.out hb11)
  clear hb11
  go_wp2_with fail
  refine (rd9 _).mono ?_
  rintro e w12 ⟨rfl, hb12⟩
  have HB12 := Lib.hid (after HB11.out hb12)
  clear hb12
  go_wp2
  go_ret
  exact ⟨rfl, HB12.out⟩
end Go.Proofs.YtngoipcjipbelaaDoor
