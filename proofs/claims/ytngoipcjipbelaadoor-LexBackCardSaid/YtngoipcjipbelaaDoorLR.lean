/- lex: the law LexWord. -/
import Derived.Test.YtngoipcjipbelaaDoorLP
namespace Go.Proofs.YtngoipcjipbelaaDoor
set_option linter.unusedVariables false
set_option linter.unusedSimpArgs false
open Go.ChangeShapes Go.WideShapes Go.Deep Go.RowKit

theorem of_bytes (s : ByteArray) : (⟨s.data.toList.toArray⟩ : ByteArray) = s := by cases s; simp
theorem row_head {w : World} {B n : Nat} {a : Option Addr} {t : Tk} {ts : List Tk} (h : SL tkC 3 w B a n (t :: ts)) :
    ∃ b off, a = some ⟨b, off, none⟩ ∧ b < B ∧ w.cell? ⟨b, off, none⟩ = some (.int .i64 (t.kind : Int)) ∧ w.cell? ⟨b, off + 1, none⟩ = some (.string ⟨t.text.toArray⟩) ∧ w.cell? ⟨b, off + 2, none⟩ = some (.int .u64 (t.v : Int)) := by
  obtain ⟨b, off, e, hB, hc⟩ := h.cells (by simp)
  have h0 := hc 0 (by simp) 0 (by omega)
  have h1 := hc 0 (by simp) 1 (by omega)
  have h2 := hc 0 (by simp) 2 (by omega)
  simp only [Nat.zero_mul, Nat.add_zero, List.getElem_cons_zero] at h0 h1 h2
  exact ⟨b, off, e, hB, h0, h1, h2⟩
/-- A word, as its bytes. -/
theorem word_parts {l : List UInt8} (h : isWordL l = true) : l.length ≤ 31 ∧ (∀ b ∈ l, wordB b = true) ∧ ∃ b t, l = b :: t ∧ letterI (b.toNat : Int) = true := by
  unfold isWordL at h
  split at h
  · cases h
  · rename_i b t
    simp only [Bool.and_eq_true, decide_eq_true_eq, List.all_eq_true] at h
    exact ⟨h.1.1, h.2, b, t, rfl, h.1.2⟩
theorem word_mk {b : UInt8} {t : List UInt8} (h1 : letterI (b.toNat : Int) = true) (h2 : ∀ x ∈ b :: t, wordB x = true) : isWordL (b :: t) = decide ((b :: t).length ≤ 31) := by
  unfold isWordL
  simp only
  rw [h1, List.all_eq_true.2 h2, Bool.and_true, Bool.and_true]
theorem word_U {l : List UInt8} (h : ∀ b ∈ l, wordB b = true) : U l (l.map UInt8.toNat) := U.ascii fun b hb => wordR_lt (h b hb)
theorem word_rune {l : List UInt8} (h : ∀ b ∈ l, wordB b = true) : ∀ r ∈ l.map UInt8.toNat, wordR r = true := by
  intro r hr
  obtain ⟨b, hb, rfl⟩ := List.mem_map.1 hr
  exact h b hb
/-- A row of letters and digits, a letter ahead, is one token. -/
theorem word_one {b : UInt8} {t : List UInt8} (h1 : letterI (b.toNat : Int) = true) (h2 : ∀ x ∈ b :: t, wordB x = true) : lineL ((b :: t).map UInt8.toNat) = some [⟨1, b :: t, 0⟩] := by
  have := line_word (a := b.toNat) (s := t.map UInt8.toNat) (X := []) h1 (word_rune fun x hx => h2 x (by simp [hx])) (by intro x hx; cases hx)
  rw [List.append_nil] at this
  rw [List.map_cons, this, show lineL [] = some [] from rfl]
  rw [show (b.toNat :: t.map UInt8.toNat).flatMap encL = b :: t from (word_U h2).1.symm]
abbrev comB : ByteArray := ⟨#[44]⟩
theorem U_com : U comB.data.toList [44] := U_low (l := comB.data.toList) rfl (by decide +kernel)
theorem com_line {l : List UInt8} {x : Tk} (h : lineL (l.map UInt8.toNat) = some [x]) : lineL (44 :: l.map UInt8.toNat) = some [⟨4, [44], 0⟩, x] := by
  have hd : (44 :: l.map UInt8.toNat).dropWhile whiR = 44 :: l.map UInt8.toNat := List.dropWhile_cons_of_neg (by decide)
  have ht : tokL (44 :: l.map UInt8.toNat) = some (⟨4, [44], 0⟩, l.map UInt8.toNat) := by
    unfold tokL
    simp only
    rw [if_neg (by decide), if_neg (by decide), if_neg (by decide), if_neg (by decide), if_pos (by decide)]
    rfl
  rw [lineL_some (by rw [hd]; unfold stops; simp) (by rw [hd]; exact ht), h]
theorem word_two {b : UInt8} {t l : List UInt8} {x : Tk} (h1 : letterI (b.toNat : Int) = true) (h2 : ∀ x ∈ b :: t, wordB x = true) (h3 : lineL (l.map UInt8.toNat) = some [x]) :
    lineL ((b :: t).map UInt8.toNat ++ [44] ++ l.map UInt8.toNat) = some [⟨1, b :: t, 0⟩, ⟨4, [44], 0⟩, x] := by
  have := line_word (a := b.toNat) (s := t.map UInt8.toNat) (X := 44 :: l.map UInt8.toNat) h1 (word_rune fun x hx => h2 x (by simp [hx])) (by intro x hx; simp at hx; subst hx; decide)
  rw [com_line h3] at this
  rw [List.map_cons, show b.toNat :: List.map UInt8.toNat t ++ [44] ++ List.map UInt8.toNat l = b.toNat :: List.map UInt8.toNat t ++ (44 :: List.map UInt8.toNat l) by simp, this]
  rw [show (b.toNat :: t.map UInt8.toNat).flatMap encL = b :: t from (word_U h2).1.symm]
theorem word_blank {l : List UInt8} : isWordL (l ++ [32]) = false := by
  cases h : isWordL (l ++ [32]) with
  | false => rfl
  | true =>
    have := (word_parts h).2.1 32 (by simp)
    exact absurd this (by decide)
abbrev blaB : ByteArray := ⟨#[32]⟩
set_option maxRecDepth 100000 in
set_option maxHeartbeats 8000000 in
theorem LexWord_walk (s : ByteArray) (hs : s.size ≤ reachBytes) (t : ByteArray) (hm : t.size ≤ reachBytes) (w : World) (hT : Tab w) : Calls Tryd.prog 6 #[.string s, .string t] w (RetB (.bool true) w) := by
  have hw : IntKind.i64.wrap ((s.size : Int) + t.size) = (s.size : Int) + t.size := by unfold reachBytes at hs hm; rw [IntKind.wrap_i64]; omega
  have hss : (s.size : Int) ≤ 140737488351232 := by unfold reachBytes at hs; omega
  have hsm : (t.size : Int) ≤ 140737488351232 := by unfold reachBytes at hm; omega
  by_cases hz : (150 : Int) < (s.size : Int) + t.size
  · clear hs hm hT
    go_enter Tryd.func6, Tryd.ntmps6
    go_wp2
    go_ret
    exact ⟨rfl, Below.refl _ _⟩
  have hs9 : s.size + t.size ≤ 150 := by omega
  have HS9 := Lib.hid hs9
  have HT := Lib.hid hT
  have HB := Lib.hid (Below.refl w.heap.size w)
  have HWS := Lib.hid (fun u => IsWord_any s (by unfold reachBytes at hs; unfold maxLen; omega) u)
  have HWT := Lib.hid (fun u => IsWord_any t (by unfold reachBytes at hm; unfold maxLen; omega) u)
  have hls : s.data.toList.length = s.size := by simp
  have hlt : t.data.toList.length = t.size := by simp
  have HLEN := Lib.hid (And.intro hls hlt)
  clear hs hm hT hs9 hls hlt
  cases cs : isWordL s.data.toList
  · rw [cs] at HWS
    clear cs
    go_enter Tryd.func6, Tryd.ntmps6
    go_wp2_with fail
    refine (HWS.out _).mono ?_
    rintro e w1 ⟨rfl, hb⟩
    have HB1 := Lib.hid hb
    clear hb
    go_wp2_with fail
    refine (read_any _ (HT.out.next HB1.out)).mono ?_
    rintro e w2 ⟨rfl, hb⟩
    have HB2 := Lib.hid (after HB1.out hb)
    clear hb
    go_wp2
    go_ret
    exact ⟨rfl, HB2.out⟩
  rw [cs] at HWS
  obtain ⟨hl31, hall, b, r, hbr, hlet⟩ := word_parts cs
  have hall2 : ∀ x ∈ b :: r, wordB x = true := by rw [← hbr]; exact hall
  have hone := word_one hlet hall2
  rw [← hbr] at hone
  have hsz : s.size ≤ 31 := by have := HLEN.out.1; omega
  have HL1 := Lib.hid (Line_is s (by omega) (word_U hall) hone)
  have HWB : Hid (∀ u, Calls Tryd.prog 19 #[.string (s ++ blaB)] u (RetB (.bool false) u)) := Lib.hid fun u => by
    have := IsWord_any (s ++ blaB) (by rw [cat_size]; show s.size + 1 ≤ maxLen; unfold maxLen; omega) u
    rw [cat_list] at this
    rwa [word_blank] at this
  have HWE : Hid (∀ u, Calls Tryd.prog 19 #[.string ⟨#[]⟩] u (RetB (.bool false) u)) := Lib.hid fun u => IsWord_any ⟨#[]⟩ (by decide) u
  have HN1 : Hid (∀ u, (Sem.run Tryd.prog (binOp BinOp.neq 31 (.agg #[.int .i64 1, .string s, .int .u64 0]) (.agg #[.int .i64 1, .string s, .int .u64 0])) u) = Result.ok (.bool false) u) := Lib.hid fun u => by
    have := neq_tok ⟨1, s.data.toList, 0⟩ ⟨1, s.data.toList, 0⟩ u
    rw [sameT_iff.2 rfl, tkV, of_bytes] at this
    exact this
  have HW := Lib.hid (And.intro (And.intro hall hbr) (And.intro hall2 hlet))
  have HONE := Lib.hid hone
  have HSZ := Lib.hid hsz
  have hs31 : (s.size : Int) ≤ 31 := by omega
  clear cs hl31 hall hbr hlet hall2 hone hss hsz
  cases ct : isWordL t.data.toList
  · rw [ct] at HWT
    clear ct
    have hn1 := HN1.out
    go_enter Tryd.func6, Tryd.ntmps6
    go_wp2_with fail
    refine (HWS.out _).mono ?_
    rintro e w1 ⟨rfl, hb⟩
    have HB1 := Lib.hid hb
    clear hb
    go_wp2_with fail
    refine (HL1.out _ (HT.out.next HB1.out)).mono ?_
    rintro e w2 ⟨a1, c1, rfl, hs1, -, hb⟩
    have HB2 := Lib.hid (after HB1.out hb)
    obtain ⟨b1, o1, rfl, hb1l, x0, x1, x2⟩ := row_head hs1
    rw [of_bytes] at x1
    clear hb hs1
    go_wp2_with fail
    refine (HWB.out _).mono ?_
    rintro e w3 ⟨rfl, hb⟩
    have HB3 := Lib.hid (after HB2.out hb)
    clear hb x0 x1 x2
    go_wp2_with fail
    refine (HWE.out _).mono ?_
    rintro e w4 ⟨rfl, hb⟩
    have HB4 := Lib.hid (after HB3.out hb)
    clear hb
    go_wp2_with fail
    refine (HWT.out _).mono ?_
    rintro e w5 ⟨rfl, hb⟩
    have HB5 := Lib.hid (after HB4.out hb)
    clear hb
    go_wp2_with fail
    refine (read_any _ (HT.out.next HB5.out)).mono ?_
    rintro e w6 ⟨rfl, hb⟩
    have HB6 := Lib.hid (after HB5.out hb)
    clear hb
    go_wp2
    go_ret
    exact ⟨rfl, HB6.out⟩
  · rw [ct] at HWT
    obtain ⟨hl31, hall, bt, rt, hbr, hlet⟩ := word_parts ct
    have hall2 : ∀ x ∈ bt :: rt, wordB x = true := by rw [← hbr]; exact hall
    have honet := word_one hlet hall2
    rw [← hbr] at honet
    have htz : t.size ≤ 31 := by have := HLEN.out.2; omega
    -- both, side by side
    have hallst : ∀ x ∈ b :: (r ++ t.data.toList), wordB x = true := by
      intro x hx
      rw [← List.cons_append] at hx
      rcases List.mem_append.1 hx with hx | hx
      · exact HW.out.2.1 x hx
      · exact hall x hx
    have hst : (s ++ t).data.toList = b :: (r ++ t.data.toList) := by rw [cat_list, HW.out.1.2]; rfl
    have hone2 := word_one HW.out.2.2 hallst
    rw [← hst] at hone2
    have hcz : (s ++ t).size ≤ 62 := by rw [cat_size]; have := HSZ.out; omega
    have HL2 := Lib.hid (Line_is (s ++ t) (by omega) (word_U (by rw [hst]; exact hallst)) hone2)
    have HWC : Hid (∀ u, Calls Tryd.prog 19 #[.string (s ++ t)] u (RetB (.bool (decide (s.size + t.size ≤ 31))) u)) := Lib.hid fun u => by
      have := IsWord_any (s ++ t) (by unfold maxLen; omega) u
      have e := word_mk HW.out.2.2 hallst
      rw [← hst] at e
      rw [e] at this
      have e2 : (s ++ t).data.toList.length = s.size + t.size := by
        rw [cat_list, List.length_append, HLEN.out.1, HLEN.out.2]
      rwa [e2] at this
    have hthree : lineL (s.data.toList.map UInt8.toNat ++ [44] ++ t.data.toList.map UInt8.toNat) = some [⟨1, s.data.toList, 0⟩, ⟨4, [44], 0⟩, ⟨1, t.data.toList, 0⟩] := by
      rw [HW.out.1.2]
      exact word_two HW.out.2.2 HW.out.2.1 honet
    have hcz3 : (s ++ comB ++ t).size ≤ 200 := by rw [cat_size, cat_size]; show s.size + 1 + t.size ≤ 200; have := HSZ.out; omega
    have HL3 := Lib.hid (Line_is (s ++ comB ++ t) hcz3 (rs := s.data.toList.map UInt8.toNat ++ [44] ++ t.data.toList.map UInt8.toNat) (by rw [cat_list, cat_list]; exact ((word_U HW.out.1.1).append U_com).append (word_U hall)) hthree)
    have hc1 : ((s ++ t : ByteArray).size : Int) = (s.size : Int) + t.size := by rw [cat_size]; omega
    have hc2 : ((s ++ comB : ByteArray).size : Int) = (s.size : Int) + 1 := by rw [cat_size]; show ((s.size + 1 : Nat) : Int) = _; omega
    have ht31 : (t.size : Int) ≤ 31 := by omega
    have HWD : Hid (∀ z : Bool, z = decide (s.size + t.size ≤ 31) → (z == decide ((s.size : Int) + t.size ≤ 31)) = true) := Lib.hid (by
      intro z hz
      rw [hz, beq_iff_eq, decide_eq_decide]; omega)
    obtain ⟨z, hzz⟩ : ∃ z, z = decide (s.size + t.size ≤ 31) := ⟨_, rfl⟩
    rw [← hzz] at HWC
    have hzd := HWD.out z hzz
    have HZZ := Lib.hid hzz
    have hn1 := HN1.out
    clear ct hl31 hall hbr hlet hall2 honet htz hallst hst hone2 hcz hthree hcz3 hzz HWD hsm
    go_enter Tryd.func6, Tryd.ntmps6
    go_wp2_with fail
    refine (HWS.out _).mono ?_
    rintro e w1 ⟨rfl, hb⟩
    have HB1 := Lib.hid hb
    clear hb
    go_wp2_with fail
    refine (HL1.out _ (HT.out.next HB1.out)).mono ?_
    rintro e w2 ⟨a1, c1, rfl, hs1, -, hb⟩
    have HB2 := Lib.hid (after HB1.out hb)
    obtain ⟨b1, o1, rfl, hb1l, x0, x1, x2⟩ := row_head hs1
    rw [of_bytes] at x1
    clear hb hs1
    go_wp2_with fail
    refine (HWB.out _).mono ?_
    rintro e w3 ⟨rfl, hb⟩
    have HB3 := Lib.hid (after HB2.out hb)
    clear hb x0 x1 x2
    go_wp2_with fail
    refine (HWE.out _).mono ?_
    rintro e w4 ⟨rfl, hb⟩
    have HB4 := Lib.hid (after HB3.out hb)
    clear hb hn1
    go_wp2_with fail
    refine (HWT.out _).mono ?_
    rintro e w5 ⟨rfl, hb⟩
    have HB5 := Lib.hid (after HB4.out hb)
    clear hb
    go_wp2_with fail
    refine (HL2.out _ (HT.out.next HB5.out)).mono ?_
    rintro e w6 ⟨a2, c2, rfl, hs2, -, hb⟩
    have HB6 := Lib.hid (after HB5.out hb)
    have HS2 := Lib.hid hs2
    clear hb hs2
    go_wp2_with fail
    refine (HL3.out _ (HT.out.next HB6.out)).mono ?_
    rintro e w7 ⟨a3, c3, rfl, -, -, hb⟩
    have HB7 := Lib.hid (after HB6.out hb)
    replace HS2 := Lib.hid (HS2.out.next hb)
    clear hb
    go_wp2_with fail
    refine (read_any _ (HT.out.next HB7.out)).mono ?_
    rintro e w8 ⟨rfl, hb⟩
    have HB8 := Lib.hid (after HB7.out hb)
    replace HS2 := Lib.hid (HS2.out.next hb)
    clear hb
    go_wp2_with fail
    refine (HWC.out _).mono ?_
    rintro e w9 ⟨rfl, hb⟩
    have HB9 := Lib.hid (after HB8.out hb)
    obtain ⟨b2, o2, rfl, hb2l, x0, x1, x2⟩ := row_head (HS2.out.next hb)
    rw [of_bytes] at x1
    clear hb HS2
    have hw2 := hw
    go_wp2
    go_ret
    exact ⟨rfl, HB9.out⟩
end Go.Proofs.YtngoipcjipbelaaDoor
