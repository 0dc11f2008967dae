/- lex: what a line and its runes are, whatever the text; the law LexComment. -/
import Derived.Test.YtngoipcjipbelaaDoorLO
namespace Go.Proofs.YtngoipcjipbelaaDoor
set_option linter.unusedVariables false
set_option linter.unusedSimpArgs false
open Go.ChangeShapes Go.WideShapes Go.Deep Go.RowKit

theorem valid_or (l : List UInt8) : (∃ rs, U l rs) ∨ Lib.validD l = false := by
  cases h : Lib.validD l with
  | true => exact .inl (U.of_valid h)
  | false => exact .inr rfl
theorem Line_all (s : ByteArray) (hs : s.size ≤ 200) :
    (∃ rs ts, U s.data.toList rs ∧ lineL rs = some ts ∧ ∀ w, Tab w → Calls Tryd.prog 16 #[.string s] w (RetTs ts w)) ∨
    ((∀ rs, U s.data.toList rs → lineL rs = none) ∧ ∀ w, Tab w → Calls Tryd.prog 16 #[.string s] w (RetB (.tuple #[.slice none 0 0, .int .i64 3]) w)) := by
  rcases valid_or s.data.toList with ⟨rs, hu⟩ | hn
  · cases hl : lineL rs with
    | some ts => exact .inl ⟨rs, ts, hu, hl, fun w hT => Line_yes s hu hs hl w hT⟩
    | none => exact .inr ⟨fun x hx => by rw [hx.inj hu]; exact hl, fun w hT => Line_no s hu hs hl w hT⟩
  · exact .inr ⟨fun x hx => (by have := hx.valid; rw [hn] at this; cases this), fun w hT => Line_bad s hn hs w hT⟩
theorem Line_is (s : ByteArray) (hs : s.size ≤ 200) {rs : List Nat} (hu : U s.data.toList rs) {ts : List Tk} (hl : lineL rs = some ts) : ∀ w, Tab w → Calls Tryd.prog 16 #[.string s] w (RetTs ts w) := fun w hT => Line_yes s hu hs hl w hT
theorem Line_not (s : ByteArray) (hs : s.size ≤ 200) (hn : ∀ rs, U s.data.toList rs → lineL rs = none) : ∀ w, Tab w → Calls Tryd.prog 16 #[.string s] w (RetB (.tuple #[.slice none 0 0, .int .i64 3]) w) := by
  rcases Line_all s hs with ⟨rs, ts, hu, hl, _⟩ | ⟨_, h⟩
  · rw [hn rs hu] at hl; cases hl
  · exact h
theorem Runes_all (s : ByteArray) (hs : s.size ≤ 1000) :
    (∃ rs, U s.data.toList rs ∧ ∀ w, Tab w → Calls Tryd.prog 18 #[.string s] w (RunesP rs w)) ∨
    (Lib.validD s.data.toList = false ∧ ∀ w, Tab w → Calls Tryd.prog 18 #[.string s] w (RetB (.tuple #[.slice none 0 0, .int .i64 3]) w)) := by
  rcases valid_or s.data.toList with ⟨rs, hu⟩ | hn
  · exact .inl ⟨rs, hu, fun w hT => Runes_yes s rs hu (by omega) w hT⟩
  · exact .inr ⟨hn, fun w hT => Runes_no s hn (by omega) w hT⟩
theorem lineN_len {n : Nat} {l : List Nat} {ts : List Tk} (h : lineN n l = some ts) : ts.length ≤ l.length := by
  induction n generalizing l ts with
  | zero => cases h
  | succ n ih =>
    unfold lineN at h
    split at h
    · cases h; simp
    · split at h
      · cases h
      · rename_i t u ht
        split at h
        · cases h
        · rename_i x hx
          cases h
          have := ih hx
          have := tok_short ht
          have := drop_short (p := whiR) l
          simp; omega
theorem line_len {l : List Nat} {ts : List Tk} (h : lineL l = some ts) : ts.length ≤ l.length := lineN_len h
theorem cat_list (a b : ByteArray) : (a ++ b).data.toList = a.data.toList ++ b.data.toList := by
  rw [ByteArray.data_append, Array.toList_append]
theorem cat_size (a b : ByteArray) : (a ++ b).size = a.size + b.size := ByteArray.size_append
abbrev remB : ByteArray := ⟨#[32, 47, 47]⟩
theorem remark_line (x : List Nat) : lineL (32 :: 47 :: 47 :: x) = some [] := by
  refine lineL_end ?_
  rw [show (32 :: 47 :: 47 :: x).dropWhile whiR = 47 :: 47 :: x from rfl]
  rfl
theorem remark_runes : U remB.data.toList [32, 47, 47] := U_low (l := remB.data.toList) rfl (by decide +kernel)
theorem remark_yes {s more : ByteArray} {rs rm : List Nat} {ts : List Tk} (hu : U s.data.toList rs) (hl : lineL rs = some ts) (hm : U more.data.toList rm) :
    ∃ x, U (s ++ remB ++ more).data.toList x ∧ lineL x = some ts := by
  refine ⟨(rs ++ [32, 47, 47]) ++ rm, ?_, ?_⟩
  · rw [cat_list, cat_list]; exact (hu.append remark_runes).append hm
  · have := join (X := 32 :: 47 :: 47 :: rm) hl (remark_line rm) (by intro x hx; simp at hx; subst hx; decide) (.inr rfl)
    rw [List.append_nil] at this
    rw [List.append_assoc]; exact this
theorem remark_no {s more : ByteArray} (hm : Lib.validD more.data.toList = false) : ∀ x, U (s ++ remB ++ more).data.toList x → lineL x = none := by
  intro x hx
  exfalso
  rw [cat_list, cat_list, List.append_assoc] at hx
  obtain ⟨y, z, -, hz, -⟩ := U.part (a := s.data.toList) (b := 47 :: 47 :: more.data.toList) (c := 32) (by decide) hx
  have h2 : U ([47, 47] : List UInt8) [47, 47] := U_low (s := ⟨#[47, 47]⟩) (l := [47, 47]) rfl (by decide +kernel)
  have := hz.valid
  rw [show (47 :: 47 :: more.data.toList : List UInt8) = [47, 47] ++ more.data.toList from rfl, h2.skip, hm] at this
  cases this
set_option maxRecDepth 100000 in
set_option maxHeartbeats 4000000 in
theorem LexComment_walk (s : ByteArray) (hs : s.size ≤ reachBytes) (more : ByteArray) (hmm : more.size ≤ reachBytes) (w : World) (hT : Tab w) : Calls Tryd.prog 5 #[.string s, .string more] w (RetB (.bool true) w) := by
  have hw : IntKind.i64.wrap ((s.size : Int) + more.size) = (s.size : Int) + more.size := by unfold reachBytes at hs hmm; rw [IntKind.wrap_i64]; omega
  have hss : (s.size : Int) ≤ 140737488351232 := by unfold reachBytes at hs; omega
  have hsm : (more.size : Int) ≤ 140737488351232 := by unfold reachBytes at hmm; omega
  by_cases hz : (190 : Int) < (s.size : Int) + more.size
  · clear hs hmm hT
    go_enter Tryd.func5, Tryd.ntmps5
    go_wp2
    go_ret
    exact ⟨rfl, Below.refl _ _⟩
  have hs9 : s.size + more.size ≤ 190 := by omega
  have hcs : (s ++ remB ++ more).size ≤ 200 := by rw [cat_size, cat_size]; show s.size + 3 + more.size ≤ 200; omega
  have HT := Lib.hid hT
  have HB := Lib.hid (Below.refl w.heap.size w)
  have hr3 : (remB.size : Int) = 3 := rfl
  have hc3 : ((s ++ remB).size : Int) = (s.size : Int) + 3 := by rw [cat_size]; show ((s.size + 3 : Nat) : Int) = _; omega
  rcases Runes_all more (by omega) with ⟨rm, hum, hcm⟩ | ⟨hbm, hcm⟩
  · have HCM := Lib.hid hcm
    rcases Line_all s (by omega) with ⟨rs, ts, hus, hls, hcs1⟩ | ⟨-, hcs1⟩
    · obtain ⟨x, hux, hlx⟩ := remark_yes hus hls hum
      have HC1 := Lib.hid hcs1
      have HC2 := Lib.hid (Line_is (s ++ remB ++ more) hcs hux hlx)
      have HLN : Hid (ts.length ≤ 1000000) := Lib.hid (by
        have := line_len hls
        have := hus.len
        have h2 : s.data.toList.length = s.size := by simp
        omega)
      clear hcm hcs1 hus hls hum hux hlx hcs hs9 hs hmm hT
      go_enter Tryd.func5, Tryd.ntmps5
      go_wp2_with fail
      refine (HCM.out _ HT.out).mono ?_
      rintro e w1 ⟨a0, c0, rfl, -, -, hb⟩
      have HB1 := Lib.hid (after HB.out hb)
      clear hb
      go_wp2_with fail
      refine (HC1.out _ (HT.out.next HB1.out)).mono ?_
      rintro e w2 ⟨a1, c1, rfl, hs1, -, hb⟩
      have HB2 := Lib.hid (after HB1.out hb)
      have HS1 := Lib.hid hs1
      clear hb hs1
      go_wp2_with fail
      refine (HC2.out _ (HT.out.next HB2.out)).mono ?_
      rintro e w3 ⟨a2, c2, rfl, hs2, -, hb⟩
      have HB3 := Lib.hid (after HB2.out hb)
      have HS2 := Lib.hid hs2
      replace HS1 := Lib.hid (HS1.out.next hb)
      clear hb hs2
      go_wp2_with fail
      refine (read_any _ (HT.out.next HB3.out)).mono ?_
      rintro e w4 ⟨rfl, hb⟩
      have HB4 := Lib.hid (after HB3.out hb)
      replace HS1 := Lib.hid (HS1.out.next hb)
      replace HS2 := Lib.hid (HS2.out.next hb)
      clear hb
      go_wp2_with fail
      refine (Same_is a1 a2 _ _ c1 c2 ts _ HLN.out HLN.out HS1.out HS2.out).mono ?_
      rintro e w5 ⟨rfl, hb⟩
      have HB5 := Lib.hid (after HB4.out hb)
      clear hb
      go_wp2
      go_ret
      exact ⟨rfl, HB5.out⟩
    · have HC1 := Lib.hid hcs1
      rcases Line_all (s ++ remB ++ more) hcs with ⟨x, tx, -, -, hc2⟩ | ⟨-, hc2⟩
      · have HC2 := Lib.hid hc2
        clear hcm hcs1 hc2 hum hcs hs9 hs hmm hT
        go_enter Tryd.func5, Tryd.ntmps5
        go_wp2_with fail
        refine (HCM.out _ HT.out).mono ?_
        rintro e w1 ⟨a0, c0, rfl, -, -, hb⟩
        have HB1 := Lib.hid (after HB.out hb)
        clear hb
        go_wp2_with fail
        refine (HC1.out _ (HT.out.next HB1.out)).mono ?_
        rintro e w2 ⟨rfl, hb⟩
        have HB2 := Lib.hid (after HB1.out hb)
        clear hb
        go_wp2_with fail
        refine (HC2.out _ (HT.out.next HB2.out)).mono ?_
        rintro e w3 ⟨a2, c2, rfl, -, -, hb⟩
        have HB3 := Lib.hid (after HB2.out hb)
        clear hb
        go_wp2_with fail
        refine (read_any _ (HT.out.next HB3.out)).mono ?_
        rintro e w4 ⟨rfl, hb⟩
        have HB4 := Lib.hid (after HB3.out hb)
        clear hb
        go_wp2
        go_ret
        exact ⟨rfl, HB4.out⟩
      · have HC2 := Lib.hid hc2
        clear hcm hcs1 hc2 hum hcs hs9 hs hmm hT
        go_enter Tryd.func5, Tryd.ntmps5
        go_wp2_with fail
        refine (HCM.out _ HT.out).mono ?_
        rintro e w1 ⟨a0, c0, rfl, -, -, hb⟩
        have HB1 := Lib.hid (after HB.out hb)
        clear hb
        go_wp2_with fail
        refine (HC1.out _ (HT.out.next HB1.out)).mono ?_
        rintro e w2 ⟨rfl, hb⟩
        have HB2 := Lib.hid (after HB1.out hb)
        clear hb
        go_wp2_with fail
        refine (HC2.out _ (HT.out.next HB2.out)).mono ?_
        rintro e w3 ⟨rfl, hb⟩
        have HB3 := Lib.hid (after HB2.out hb)
        clear hb
        go_wp2_with fail
        refine (read_any _ (HT.out.next HB3.out)).mono ?_
        rintro e w4 ⟨rfl, hb⟩
        have HB4 := Lib.hid (after HB3.out hb)
        clear hb
        go_wp2
        go_ret
        exact ⟨rfl, HB4.out⟩
  · have HCM := Lib.hid hcm
    have HC2 := Lib.hid (Line_not (s ++ remB ++ more) hcs (remark_no hbm))
    rcases Line_all s (by omega) with ⟨rs, ts, hus, hls, hcs1⟩ | ⟨-, hcs1⟩
    · have HC1 := Lib.hid hcs1
      clear hcm hcs1 hbm hcs hs9 hs hmm hT hus hls
      go_enter Tryd.func5, Tryd.ntmps5
      go_wp2_with fail
      refine (HCM.out _ HT.out).mono ?_
      rintro e w1 ⟨rfl, hb⟩
      have HB1 := Lib.hid (after HB.out hb)
      clear hb
      go_wp2_with fail
      refine (HC1.out _ (HT.out.next HB1.out)).mono ?_
      rintro e w2 ⟨a1, c1, rfl, -, -, hb⟩
      have HB2 := Lib.hid (after HB1.out hb)
      clear hb
      go_wp2_with fail
      refine (HC2.out _ (HT.out.next HB2.out)).mono ?_
      rintro e w3 ⟨rfl, hb⟩
      have HB3 := Lib.hid (after HB2.out hb)
      clear hb
      go_wp2_with fail
      refine (read_any _ (HT.out.next HB3.out)).mono ?_
      rintro e w4 ⟨rfl, hb⟩
      have HB4 := Lib.hid (after HB3.out hb)
      clear hb
      go_wp2
      go_ret
      exact ⟨rfl, HB4.out⟩
    · have HC1 := Lib.hid hcs1
      clear hcm hcs1 hbm hcs hs9 hs hmm hT
      go_enter Tryd.func5, Tryd.ntmps5
      go_wp2_with fail
      refine (HCM.out _ HT.out).mono ?_
      rintro e w1 ⟨rfl, hb⟩
      have HB1 := Lib.hid (after HB.out hb)
      clear hb
      go_wp2_with fail
      refine (HC1.out _ (HT.out.next HB1.out)).mono ?_
      rintro e w2 ⟨rfl, hb⟩
      have HB2 := Lib.hid (after HB1.out hb)
      clear hb
      go_wp2_with fail
      refine (HC2.out _ (HT.out.next HB2.out)).mono ?_
      rintro e w3 ⟨rfl, hb⟩
      have HB3 := Lib.hid (after HB2.out hb)
      clear hb
      go_wp2_with fail
      refine (read_any _ (HT.out.next HB3.out)).mono ?_
      rintro e w4 ⟨rfl, hb⟩
      have HB4 := Lib.hid (after HB3.out hb)
      clear hb
      go_wp2
      go_ret
      exact ⟨rfl, HB4.out⟩
end Go.Proofs.YtngoipcjipbelaaDoor
