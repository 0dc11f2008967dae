/- lex: the law LexBack. -/
import Derived.Test.YtngoipcjipbelaaDoorLR
import Derived.Deep.RegionHeld3
namespace Go.Proofs.YtngoipcjipbelaaDoor
set_option linter.unusedVariables false
set_option linter.unusedSimpArgs false
open Go.ChangeShapes Go.WideShapes Go.Deep Go.RowKit

theorem SL.tail {w : World} {B b off n : Nat} {t : Tk} {ts : List Tk} (h : SL tkC 3 w B (some ⟨b, off, none⟩) n (t :: ts)) : SL tkC 3 w B (some ⟨b, off + 3, none⟩) ts.length ts := by
  refine ⟨rfl, fun hne => ?_⟩
  obtain ⟨b', off', e, hB, hc⟩ := h.cells (by simp)
  cases e
  refine ⟨b, off + 3, rfl, hB, fun k hk j hj => ?_⟩
  have := hc (k + 1) (by simpa using hk) j hj
  rw [show off + 3 + k * 3 + j = off + (k + 1) * 3 + j by omega]
  simpa using this
theorem bytesOf_list (rs : List Nat) : (bytesOf rs).data.toList = rs.flatMap encL := rfl
theorem quote_vr {rs : List Nat} (h : ∀ r ∈ rs, VR r) : ∀ x ∈ quoteL rs, VR x := by
  intro x hx
  unfold quoteL at hx
  rcases List.mem_cons.1 hx with rfl | hx
  · exact .inl (by omega)
  rcases List.mem_append.1 hx with hx | hx
  · obtain ⟨r, hr, hxr⟩ := List.mem_flatMap.1 hx
    exact esc_vr (h r hr) x hxr
  · simp at hx; subst hx; exact .inl (by omega)
theorem quote_U {rs : List Nat} (h : ∀ r ∈ rs, VR r) : U (bytesOf (quoteL rs)).data.toList (quoteL rs) := ⟨bytesOf_list _, quote_vr h⟩
theorem quote_line {rs : List Nat} (hq : rs.all quoR = true) (X : List Nat) : lineL (quoteL rs ++ X) = (match lineL X with | none => none | some ts => some (⟨3, rs.flatMap encL, 0⟩ :: ts)) := by
  rw [List.all_eq_true] at hq
  have := line_quote hq X
  have e : quoteL rs ++ X = 34 :: (rs.flatMap escR ++ 34 :: X) := by unfold quoteL; simp
  rw [e]
  exact this
theorem U_bla : U blaB.data.toList [32] := U_low (l := blaB.data.toList) rfl (by decide +kernel)
theorem bytes_size (rs : List Nat) : (bytesOf rs).size = (rs.flatMap encL).length := by unfold bytesOf; show (rs.flatMap encL).toArray.size = _; simp
theorem quote_size {rs : List Nat} (h : ∀ r ∈ rs, VR r) : (bytesOf (quoteL rs)).size ≤ 2 + 5 * rs.length := by
  rw [bytes_size, bytes_quote]
  have := flat_esc_len h
  simp only [List.length_cons, List.length_append, List.length_nil]; omega
theorem back_no {Q more : ByteArray} {ql : List Nat} (hQ : U Q.data.toList ql) (hl : ∀ X, lineL X = none → lineL (ql ++ X) = none) (hm : ∀ rm, U more.data.toList rm → lineL rm = none) :
    ∀ x, U (Q ++ blaB ++ more).data.toList x → lineL x = none := by
  intro x hx
  have hv := hx.valid
  have h2 : U (Q ++ blaB).data.toList (ql ++ [32]) := by rw [cat_list]; exact hQ.append U_bla
  rw [cat_list, h2.skip] at hv
  obtain ⟨rm, hrm⟩ := U.of_valid hv
  have e : x = (ql ++ [32]) ++ rm := hx.inj (by rw [cat_list]; exact h2.append hrm)
  rw [e, List.append_assoc]
  exact hl _ (by rw [List.singleton_append, line_blank]; exact hm rm hrm)
set_option maxRecDepth 100000 in
set_option maxHeartbeats 8000000 in
theorem LexBack_walk (s : ByteArray) (hs : s.size ≤ reachBytes) (more : ByteArray) (hm : more.size ≤ reachBytes) (w : World) (hT : Tab w) : Calls Tryd.prog 3 #[.string s, .string more] w (RetB (.bool true) w) := by
  have hss : (s.size : Int) ≤ 140737488351232 := by unfold reachBytes at hs; omega
  have hsm : (more.size : Int) ≤ 140737488351232 := by unfold reachBytes at hm; omega
  by_cases hz : (90 : Int) < (s.size : Int)
  · clear hs hm hT
    go_enter Tryd.func3, Tryd.ntmps3
    go_wp2
    go_ret
    exact ⟨rfl, Below.refl _ _⟩
  by_cases hz2 : (90 : Int) < (more.size : Int)
  · clear hs hm hT
    go_enter Tryd.func3, Tryd.ntmps3
    go_wp2
    go_ret
    exact ⟨rfl, Below.refl _ _⟩
  have hs9 : s.size ≤ 90 := by omega
  have hm9 : more.size ≤ 90 := by omega
  have HT := Lib.hid hT
  have HB := Lib.hid (Below.refl w.heap.size w)
  have hls : s.data.toList.length = s.size := by simp
  clear hs hm hT
  have hQ : (∃ rs, U s.data.toList rs ∧ rs.all quoR = true ∧ ∀ u, Tab u → Calls Tryd.prog 14 #[.string s] u (RetB (.tuple #[.string (bytesOf (quoteL rs)), .int .i64 0]) u)) ∨
      ∀ u, Tab u → Calls Tryd.prog 14 #[.string s] u (RetB (.tuple #[.string ⟨#[]⟩, .int .i64 3]) u) := by
    rcases valid_or s.data.toList with ⟨rs, hu⟩ | hn
    · cases hq : rs.all quoR with
      | true =>
        refine .inl ⟨rs, hu, hq, fun u hT => ?_⟩
        have := Quote_any s rs hu (by omega) u hT
        unfold QuoteP at this
        rw [hq] at this
        exact this
      | false =>
        refine .inr fun u hT => ?_
        have := Quote_any s rs hu (by omega) u hT
        unfold QuoteP at this
        rw [hq] at this
        exact this
    · exact .inr fun u hT => Quote_bad s hn (by omega) u hT
  rcases hQ with ⟨rs, hu, hq, hQ⟩ | hQ
  · obtain ⟨Q, hQe⟩ : ∃ Q, Q = bytesOf (quoteL rs) := ⟨_, rfl⟩
    have hQU : U Q.data.toList (quoteL rs) := by rw [hQe]; exact quote_U hu.2
    have hQz : Q.size ≤ 452 := by
      rw [hQe]
      have := quote_size hu.2
      have := hu.len
      omega
    have hflat : rs.flatMap encL = s.data.toList := hu.1.symm
    have hline := fun X => quote_line hq X
    rw [hflat] at hline
    rw [← hQe] at hQ
    have HQ := Lib.hid hQ
    have hq9 : (Q.size : Int) ≤ 452 := by omega
    clear hQ hQe hu hq hflat
    by_cases hz3 : (200 : Int) < (Q.size : Int)
    · have HL := Lib.hid (fun u => Line_long Q (by omega) (by unfold maxLen; omega) u)
      clear hline hQU hQz hs9 hm9 hls
      go_enter Tryd.func3, Tryd.ntmps3
      go_wp2_with fail
      refine (HQ.out _ HT.out).mono ?_
      rintro e w1 ⟨rfl, hb⟩
      have HB1 := Lib.hid hb
      clear hb
      go_wp2_with fail
      refine (HL.out _).mono ?_
      rintro e w2 ⟨rfl, hb⟩
      have HB2 := Lib.hid (after HB1.out hb)
      clear hb
      go_wp2_with fail
      refine (read_any _ (HT.out.next HB2.out)).mono ?_
      rintro e w3 ⟨rfl, hb⟩
      have HB3 := Lib.hid (after HB2.out hb)
      clear hb
      go_wp2
      go_ret
      exact ⟨rfl, HB3.out⟩
    have hQ2 : Q.size ≤ 200 := by omega
    have hone : lineL (quoteL rs) = some [⟨3, s.data.toList, 0⟩] := by
      have := hline []
      rw [List.append_nil] at this
      rw [this]; rfl
    have HL1 := Lib.hid (Line_is Q hQ2 hQU hone)
    have hn1 : ∀ u, (Sem.run Tryd.prog (binOp BinOp.neq 31 (.agg #[.int .i64 3, .string s, .int .u64 0]) (.agg #[.int .i64 3, .string s, .int .u64 0])) u) = Result.ok (.bool false) u := fun u => by
      have := neq_tok ⟨3, s.data.toList, 0⟩ ⟨3, s.data.toList, 0⟩ u
      rw [sameT_iff.2 rfl, tkV, of_bytes] at this
      exact this
    have hwq : IntKind.i64.wrap ((Q.size : Int) + 1) = (Q.size : Int) + 1 := by rw [IntKind.wrap_i64]; omega
    have hwq2 : IntKind.i64.wrap ((Q.size : Int) + 1 + more.size) = (Q.size : Int) + 1 + more.size := by rw [IntKind.wrap_i64]; omega
    by_cases hz4 : (200 : Int) < (Q.size : Int) + 1 + more.size
    · clear hline hQU hQz hQ2 hs9 hm9 hls hone
      go_enter Tryd.func3, Tryd.ntmps3
      go_wp2_with fail
      refine (HQ.out _ HT.out).mono ?_
      rintro e w1 ⟨rfl, hb⟩
      have HB1 := Lib.hid hb
      clear hb
      go_wp2_with fail
      refine (HL1.out _ (HT.out.next HB1.out)).mono ?_
      rintro e w2 ⟨a1, c1, rfl, hs1, -, hb⟩
      have HB2 := Lib.hid (after HB1.out hb)
      obtain ⟨b1, o1, rfl, hb1l, x0, x1, x2⟩ := row_head hs1
      rw [of_bytes] at x1
      clear hb hs1
      go_wp2_with fail
      refine (read_any _ (HT.out.next HB2.out)).mono ?_
      rintro e w3 ⟨rfl, hb⟩
      have HB3 := Lib.hid (after HB2.out hb)
      clear hb
      go_wp2
      go_ret
      exact ⟨rfl, HB3.out⟩
    have hc1 : ((Q ++ blaB : ByteArray).size : Int) = (Q.size : Int) + 1 := by rw [cat_size]; show ((Q.size + 1 : Nat) : Int) = _; omega
    have hcz : (Q ++ blaB ++ more).size ≤ 200 := by rw [cat_size, cat_size]; show Q.size + 1 + more.size ≤ 200; omega
    rcases Line_all more (by omega) with ⟨rm, ts, hum, hlm, hcm⟩ | ⟨hno, hcm⟩
    · have HL2 := Lib.hid hcm
      have HL3 := Lib.hid (Line_is (Q ++ blaB ++ more) hcz (rs := quoteL rs ++ [32] ++ rm) (ts := ⟨3, s.data.toList, 0⟩ :: ts) (by rw [cat_list, cat_list]; exact (hQU.append U_bla).append hum) (by
        rw [List.append_assoc, hline, List.singleton_append, line_blank, hlm]))
      obtain ⟨k, hk⟩ : ∃ k, k = ts.length := ⟨_, rfl⟩
      obtain ⟨N, hN⟩ : ∃ N, N = k + 1 := ⟨_, rfl⟩
      have HKN := Lib.hid (And.intro hk hN)
      have hk9 : k ≤ 90 := by
        have := line_len hlm
        have := hum.len
        have h2 : more.data.toList.length = more.size := by simp
        omega
      have hwk : IntKind.i64.wrap ((k : Int) + 1) = (N : Int) := by rw [IntKind.wrap_i64]; omega
      have HK9 := Lib.hid hk9
      have he1 : ∀ u, (Sem.run Tryd.prog (binOp BinOp.eql 31 (.agg #[.int .i64 3, .string s, .int .u64 0]) (.agg #[.int .i64 3, .string s, .int .u64 0])) u) = Result.ok (.bool true) u := fun u => by
        have := eql_tok ⟨3, s.data.toList, 0⟩ ⟨3, s.data.toList, 0⟩ u
        rw [sameT_iff.2 rfl, tkV, of_bytes] at this
        exact this
      clear hline hQU hQz hQ2 hs9 hm9 hls hone hcm hum hlm hcz hk hN hk9
      go_enter Tryd.func3, Tryd.ntmps3
      go_wp2_with fail
      refine (HQ.out _ HT.out).mono ?_
      rintro e w1 ⟨rfl, hb⟩
      have HB1 := Lib.hid hb
      clear hb
      go_wp2_with fail
      refine (HL1.out _ (HT.out.next HB1.out)).mono ?_
      rintro e w2 ⟨a1, c1, rfl, hs1, -, hb⟩
      have HB2 := Lib.hid (after HB1.out hb)
      obtain ⟨b1, o1, rfl, hb1l, x0, x1, x2⟩ := row_head hs1
      rw [of_bytes] at x1
      have HS1 := Lib.hid hs1
      clear hb hs1
      go_wp2_with fail
      clear x0 x1 x2
      refine (HL2.out _ (HT.out.next HB2.out)).mono ?_
      rintro e w3 ⟨a2, c2, rfl, hs2, -, hb⟩
      rw [← HKN.out.1] at hs2 ⊢
      have HB3 := Lib.hid (after HB2.out hb)
      replace HS1 := Lib.hid (HS1.out.next hb)
      have HS2 := Lib.hid hs2
      clear hb hs2
      go_wp2_with fail
      refine (HL3.out _ (HT.out.next HB3.out)).mono ?_
      rintro e w4 ⟨a3, c3, rfl, hs3, hn3, hb⟩
      rw [List.length_cons, ← HKN.out.1, ← HKN.out.2] at hs3 hn3 ⊢
      have HB4 := Lib.hid (after HB3.out hb)
      replace HS1 := Lib.hid (HS1.out.next hb)
      replace HS2 := Lib.hid (HS2.out.next hb)
      have hNc : N ≤ c3 := hn3.2
      obtain ⟨b3, o3, rfl, hb3l, x0, x1, x2⟩ := row_head hs3
      obtain ⟨b1', o1', hab, hb1l', y0, y1, y2⟩ := row_head HS1.out
      cases hab
      rw [of_bytes] at x1 y1
      have hN1 : 1 ≤ N := by have := HKN.out.2; omega
      have HS3 := Lib.hid hs3
      clear hb hs3 hn3
      have hr3 := HS3.out.tail
      rw [← HKN.out.1] at hr3
      have HR3 := Lib.hid hr3
      clear hr3
      have HRD : Hid (∀ u, Below w4.heap.size w4 u → Calls Tryd.prog 15 #[] u (RetB (.bool true) u)) := Lib.hid fun u hb => read_any u (HT.out.next (after HB4.out hb))
      have HSM : Hid (∀ ad : Option Addr, (ad = if c3 = 1 then some ⟨b3, o3, none⟩ else some ⟨b3, o3 + 3, none⟩) → ∀ u, Below w4.heap.size w4 u → Calls Tryd.prog 17 #[.slice ad (N - 1) (c3 - 1), .slice a2 k c2] u (RetB (.bool true) u)) := Lib.hid fun ad had u hb => by
        subst had
        have e : N - 1 = k := by have := HKN.out.2; omega
        rw [e]
        have hrow : SL tkC 3 w4 w4.heap.size (if c3 = 1 then some ⟨b3, o3, none⟩ else some ⟨b3, o3 + 3, none⟩) k ts := by
          split
          · have hk0 : k = 0 := by have := HKN.out.2; omega
            have ht0 : ts = [] := List.length_eq_zero_iff.1 (by have := HKN.out.1; omega)
            rw [hk0, ht0]; exact SL.nil _ _ _
          · exact HR3.out
        exact Same_is _ a2 k k (c3 - 1) c2 ts u (by have := HK9.out; omega) (by have := HK9.out; omega) (hrow.next hb) (HS2.out.next hb)
      have HCL : Hid (∀ u, Below w4.heap.size w4 u → u.cell? ⟨b3, o3, none⟩ = some (.int .i64 3) ∧ u.cell? ⟨b3, o3 + 1, none⟩ = some (.string s) ∧ u.cell? ⟨b3, o3 + 2, none⟩ = some (.int .u64 0) ∧ u.cell? ⟨b1, o1, none⟩ = some (.int .i64 3) ∧ u.cell? ⟨b1, o1 + 1, none⟩ = some (.string s) ∧ u.cell? ⟨b1, o1 + 2, none⟩ = some (.int .u64 0)) := Lib.hid fun u hb =>
        ⟨(hb.cell (p := ⟨b3, o3, none⟩) hb3l).trans x0, (hb.cell (p := ⟨b3, o3 + 1, none⟩) hb3l).trans x1, (hb.cell (p := ⟨b3, o3 + 2, none⟩) hb3l).trans x2, (hb.cell (p := ⟨b1, o1, none⟩) hb1l').trans y0, (hb.cell (p := ⟨b1, o1 + 1, none⟩) hb1l').trans y1, (hb.cell (p := ⟨b1, o1 + 2, none⟩) hb1l').trans y2⟩
      clear x0 x1 x2 y0 y1 y2
      obtain ⟨x0, x1, x2, y0, y1, y2⟩ := HCL.out _ (Below.refl _ _)
      have hNi : (N : Int) = (k : Int) + 1 := by have := HKN.out.2; omega
      have hN1z : (1 : Int) ≤ (N : Int) := by omega
      have hN0z : (0 : Int) < (N : Int) := by omega
      have hN0n : 0 < N := by omega
      have hNcz : (N : Int) ≤ (c3 : Int) := by omega
      have HNI := Lib.hid hNi
      clear hNi
      go_wp2_with fail
      by_cases hc31 : c3 = 1
      · subst hc31
        have HSM2 : Hid (∀ u, Below w4.heap.size w4 u → Calls Tryd.prog 17 #[.slice (some ⟨b3, o3, none⟩) 0 0, .slice a2 k c2] u (RetB (.bool true) u)) := Lib.hid fun u hb => by
          have := HSM.out (some ⟨b3, o3, none⟩) rfl u hb
          rwa [show N - 1 = 0 by omega] at this
        go_region_held3 (fun w' => w'.cell? ⟨b3, o3, none⟩ = some (.int .i64 3) ∧ w'.cell? ⟨b3, o3 + 1, none⟩ = some (.string s) ∧ w'.cell? ⟨b3, o3 + 2, none⟩ = some (.int .u64 0) ∧ w'.cell? ⟨b1, o1, none⟩ = some (.int .i64 3) ∧ w'.cell? ⟨b1, o1 + 1, none⟩ = some (.string s) ∧ w'.cell? ⟨b1, o1 + 2, none⟩ = some (.int .u64 0)) (go_keep) ((first
          | (go_at_call 15; refine (HRD.out _ (Below.refl w4.heap.size w4).drew).mono ?_; rintro e w5 ⟨rfl, hb5⟩; have hb5' := ((Below.refl w4.heap.size w4).drew).trans hb5; obtain ⟨s0, s1, s2, s3, s4, s5⟩ := HCL.out _ hb5')
          | (go_at_call 17; refine (HSM2.out _ hb5').mono ?_; rintro e w6 ⟨rfl, hb6⟩; have hb6' := after hb5' hb6; obtain ⟨r0, r1, r2, r3, r4, r5⟩ := HCL.out _ hb6')
          | fail))
        go_wp2
        go_ret
        exact ⟨rfl, after HB4.out hb6'⟩
      · have HSM2 : Hid (∀ u, Below w4.heap.size w4 u → Calls Tryd.prog 17 #[.slice (some ⟨b3, o3 + 3, none⟩) (N - 1) (c3 - 1), .slice a2 k c2] u (RetB (.bool true) u)) := Lib.hid fun u hb => HSM.out (some ⟨b3, o3 + 3, none⟩) (by rw [if_neg hc31]) u hb
        go_region_held3 (fun w' => w'.cell? ⟨b3, o3, none⟩ = some (.int .i64 3) ∧ w'.cell? ⟨b3, o3 + 1, none⟩ = some (.string s) ∧ w'.cell? ⟨b3, o3 + 2, none⟩ = some (.int .u64 0) ∧ w'.cell? ⟨b1, o1, none⟩ = some (.int .i64 3) ∧ w'.cell? ⟨b1, o1 + 1, none⟩ = some (.string s) ∧ w'.cell? ⟨b1, o1 + 2, none⟩ = some (.int .u64 0)) (go_keep) ((first
          | (go_at_call 15; refine (HRD.out _ (Below.refl w4.heap.size w4).drew).mono ?_; rintro e w5 ⟨rfl, hb5⟩; have hb5' := ((Below.refl w4.heap.size w4).drew).trans hb5; obtain ⟨s0, s1, s2, s3, s4, s5⟩ := HCL.out _ hb5')
          | (go_at_call 17; refine (HSM2.out _ hb5').mono ?_; rintro e w6 ⟨rfl, hb6⟩; have hb6' := after hb5' hb6; obtain ⟨r0, r1, r2, r3, r4, r5⟩ := HCL.out _ hb6')
          | fail))
        go_wp2
        go_ret
        exact ⟨rfl, after HB4.out hb6'⟩
    · have HL2 := Lib.hid hcm
      have HL3 := Lib.hid (Line_not (Q ++ blaB ++ more) hcz (back_no hQU (fun X hX => by rw [hline, hX]) hno))
      clear hline hQU hQz hQ2 hs9 hm9 hls hone hcm hcz hno
      go_enter Tryd.func3, Tryd.ntmps3
      go_wp2_with fail
      refine (HQ.out _ HT.out).mono ?_
      rintro e w1 ⟨rfl, hb⟩
      have HB1 := Lib.hid hb
      clear hb
      go_wp2_with fail
      refine (HL1.out _ (HT.out.next HB1.out)).mono ?_
      rintro e w2 ⟨a1, c1, rfl, hs1, -, hb⟩
      have HB2 := Lib.hid (after HB1.out hb)
      obtain ⟨b1, o1, rfl, hb1l, x0, x1, x2⟩ := row_head hs1
      rw [of_bytes] at x1
      clear hb hs1
      go_wp2_with fail
      clear x0 x1 x2
      refine (HL2.out _ (HT.out.next HB2.out)).mono ?_
      rintro e w3 ⟨rfl, hb⟩
      have HB3 := Lib.hid (after HB2.out hb)
      clear hb
      go_wp2_with fail
      refine (HL3.out _ (HT.out.next HB3.out)).mono ?_
      rintro e w4 ⟨rfl, hb⟩
      have HB4 := Lib.hid (after HB3.out hb)
      clear hb
      go_wp2_with fail
      refine (read_any _ (HT.out.next HB4.out)).mono ?_
      rintro e w5 ⟨rfl, hb⟩
      have HB5 := Lib.hid (after HB4.out hb)
      clear hb
      go_wp2
      go_ret
      exact ⟨rfl, HB5.out⟩
  · have HQ := Lib.hid hQ
    clear hQ hs9 hm9 hls
    go_enter Tryd.func3, Tryd.ntmps3
    go_wp2_with fail
    refine (HQ.out _ HT.out).mono ?_
    rintro e w1 ⟨rfl, hb⟩
    have HB1 := Lib.hid hb
    clear hb
    go_wp2_with fail
    refine (read_any _ (HT.out.next HB1.out)).mono ?_
    rintro e w2 ⟨rfl, hb⟩
    have HB2 := Lib.hid (after HB1.out hb)
    clear hb
    go_wp2
    go_ret
    exact ⟨rfl, HB2.out⟩
end Go.Proofs.YtngoipcjipbelaaDoor
