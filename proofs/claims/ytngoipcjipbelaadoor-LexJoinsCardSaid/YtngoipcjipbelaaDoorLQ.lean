/- lex: the law LexJoins. -/
import Derived.Test.YtngoipcjipbelaaDoorLP
import Derived.Test.YtngoipcjipbelaaDoorS2
namespace Go.Proofs.YtngoipcjipbelaaDoor
set_option linter.unusedVariables false
set_option linter.unusedSimpArgs false
open Go.ChangeShapes Go.WideShapes Go.Deep Go.RowKit

/-- No two strokes side by side, byte by byte. -/
def NoB (l : List UInt8) : Prop := ∀ i (h : i + 1 < l.length), ¬ (l[i] = 47 ∧ l[i + 1] = 47)
theorem noSl_of {l : List UInt8} {rs : List Nat} (hu : U l rs) (h : NoB l) : NoSl rs := by
  induction rs generalizing l with
  | nil => trivial
  | cons a t ih =>
    obtain ⟨hv, -, ht, hle⟩ := hu.head
    refine ⟨?_, ih ht ?_⟩
    · rintro ⟨rfl, h2⟩
      cases t with
      | nil => simp at h2
      | cons b u =>
        simp only [List.head?_cons, Option.some.injEq] at h2
        subst h2
        have e := hu.1
        rw [List.flatMap_cons, List.flatMap_cons] at e
        have e1 : encL 47 = [47] := by decide
        rw [e1] at e
        subst e
        exact h 0 (by simp) ⟨rfl, rfl⟩
    · intro i hi hh
      rw [List.length_drop] at hi
      rw [List.getElem_drop, List.getElem_drop] at hh
      refine h ((encL a).length + i) (by omega) ?_
      exact ⟨hh.1, by simpa [Nat.add_assoc] using hh.2⟩
theorem U_blank : U (⟨#[32]⟩ : ByteArray).data.toList [32] := U_low (l := (⟨#[32]⟩ : ByteArray).data.toList) rfl (by decide +kernel)
theorem U_white : U (⟨#[32, 9, 13]⟩ : ByteArray).data.toList [32, 9, 13] := U_low (l := (⟨#[32, 9, 13]⟩ : ByteArray).data.toList) rfl (by decide +kernel)
abbrev bothB (s t : ByteArray) : ByteArray := ⟨#[32]⟩ ++ s ++ ⟨#[32, 9, 13]⟩ ++ t
theorem both_yes {s t : ByteArray} {rs rt : List Nat} {a b : List Tk} (hu : U s.data.toList rs) (hv : U t.data.toList rt) (ha : lineL rs = some a) (hb : lineL rt = some b) (hn : NoB s.data.toList) :
    ∃ x, U (bothB s t).data.toList x ∧ lineL x = some (a ++ b) := by
  refine ⟨([32] ++ rs ++ [32, 9, 13]) ++ rt, ?_, ?_⟩
  · rw [cat_list, cat_list, cat_list]
    exact ((U_blank.append hu).append U_white).append hv
  · have hx : lineL (32 :: 9 :: 13 :: rt) = some b := by
      rw [lineL_white (m := rt) (by rw [List.dropWhile_cons_of_pos (by decide), List.dropWhile_cons_of_pos (by decide), List.dropWhile_cons_of_pos (by decide)])]; exact hb
    have := join ha hx (by intro x hx; simp at hx; subst hx; decide) (.inl (noSl_of hu hn))
    rw [show ([32] ++ rs ++ [32, 9, 13]) ++ rt = 32 :: (rs ++ (32 :: 9 :: 13 :: rt)) by simp, line_blank]
    exact this
set_option maxRecDepth 100000 in
set_option maxHeartbeats 8000000 in
theorem LexJoins_walk (s : ByteArray) (hs : s.size ≤ reachBytes) (t : ByteArray) (hm : t.size ≤ reachBytes) (w : World) (hT : Tab w) : Calls Tryd.prog 4 #[.string s, .string t] w (RetB (.bool true) w) := by
  obtain ⟨i0, hi, hz0, hz1, hz2⟩ := info_parts info_tok
  have hw : IntKind.i64.wrap ((s.size : Int) + t.size) = (s.size : Int) + t.size := by unfold reachBytes at hs hm; rw [IntKind.wrap_i64]; omega
  have hss : (s.size : Int) ≤ 140737488351232 := by unfold reachBytes at hs; omega
  have hsm : (t.size : Int) ≤ 140737488351232 := by unfold reachBytes at hm; omega
  by_cases hz : (190 : Int) < (s.size : Int) + t.size
  · clear hs hm hT hi hz0 hz1 hz2
    go_enter Tryd.func4, Tryd.ntmps4
    go_wp2
    go_ret
    exact ⟨rfl, Below.refl _ _⟩
  have hs9 : s.size + t.size ≤ 190 := by omega
  have hs190 : (s.size : Int) ≤ 190 := by omega
  have ht190 : (t.size : Int) ≤ 190 := by omega
  have HS9 := Lib.hid hs9
  have HT := Lib.hid hT
  have HZ := Lib.hid (And.intro hw hz)
  have hcs : (bothB s t).size ≤ 200 := by rw [cat_size, cat_size, cat_size]; show 1 + s.size + 3 + t.size ≤ 200; omega
  have HCS := Lib.hid hcs
  have hlen : s.data.toList.length = s.size := by simp
  have HLEN := Lib.hid hlen
  have hc1 : ((⟨#[32]⟩ ++ s : ByteArray).size : Int) = 1 + (s.size : Int) := by rw [cat_size]; show ((1 + s.size : Nat) : Int) = _; omega
  have hc2 : ((⟨#[32]⟩ ++ s ++ ⟨#[32, 9, 13]⟩ : ByteArray).size : Int) = 1 + (s.size : Int) + 3 := by rw [cat_size, cat_size]; show ((1 + s.size + 3 : Nat) : Int) = _; omega
  have HC12 := Lib.hid (And.intro hc1 hc2)
  clear hs hm hT hcs hlen hs9 hss hsm hc1 hc2
  go_enter Tryd.func4, Tryd.ntmps4
  go_wp2
  clear hw hz
  go_loopg [5] (s.size) (fun g iv wl => ∃ k : Nat, iv = .int .i64 k ∧ k ≤ s.size ∧ Hid (∀ i (h : i + 1 < s.data.toList.length), i < k → ¬ (s.data.toList[i] = 47 ∧ s.data.toList[i + 1] = 47)) ∧ Hid (g = s.size - k) ∧ wl = w)
  case atStart => exact ⟨0, rfl, by omega, Lib.hid (fun i h hi => by omega), Lib.hid rfl, rfl⟩
  case round =>
    obtain ⟨k, rfl, hk, HN, HG, rfl⟩ := hrel
    obtain ⟨m, hm⟩ : ∃ m, m = k + 1 := ⟨_, rfl⟩
    have hwm : IntKind.i64.wrap ((k : Int) + 1) = (m : Int) := by rw [IntKind.wrap_i64]; omega
    have HM := Lib.hid hm
    by_cases hlt : m < s.size
    · have hlk : k < s.size := by omega
      have hltz : (m : Int) < (s.size : Int) := by omega
      obtain ⟨x, hx⟩ : ∃ x : UInt8, s[k] = x := ⟨_, rfl⟩
      obtain ⟨y, hy⟩ : ∃ y : UInt8, s[m] = y := ⟨_, rfl⟩
      have hx' : s.data.toList[k]? = some x := by
        rw [List.getElem?_eq_getElem (by rw [HLEN.out]; omega), ← hx]; rfl
      have hy' : s.data.toList[k + 1]? = some y := by
        rw [List.getElem?_eq_getElem (by rw [HLEN.out]; omega), ← hy]; subst hm; rfl
      have HXY := Lib.hid (And.intro hx' hy')
      clear hm hx' hy'
      have HNX : Hid (¬ (x = 47 ∧ y = 47) → ∀ i (h : i + 1 < s.data.toList.length), i < k + 1 → ¬ (s.data.toList[i] = 47 ∧ s.data.toList[i + 1] = 47)) := Lib.hid fun hne i h hi => by
        by_cases hik : i = k
        · subst hik
          have e1 := HXY.out.1
          have e2 := HXY.out.2
          rw [List.getElem?_eq_getElem (by omega)] at e1 e2
          rw [Option.some.inj e1, Option.some.inj e2]; exact hne
        · exact HN.out i h (by omega)
      cases c : ((x.toNat : Int) == 47)
      · have HNE : Hid (¬ (x = 47 ∧ y = 47)) := Lib.hid (fun h => by rw [h.1] at c; exact absurd c (by decide))
        go_wp2
        go_roundg (s.size - (k + 1))
        case measure => have := HG.out; omega
        case rel => exact ⟨k + 1, by rw [HM.out], by omega, Lib.hid (HNX.out HNE.out), Lib.hid rfl, rfl⟩
      · cases d : ((y.toNat : Int) == 47)
        · have HNE : Hid (¬ (x = 47 ∧ y = 47)) := Lib.hid (fun h => by rw [h.2] at d; exact absurd d (by decide))
          go_wp2
          go_roundg (s.size - (k + 1))
          case measure => have := HG.out; omega
          case rel => exact ⟨k + 1, by rw [HM.out], by omega, Lib.hid (HNX.out HNE.out), Lib.hid rfl, rfl⟩
        · go_wp2_with fail
          refine (read_any _ HT.out).mono ?_
          rintro e w4 ⟨rfl, hb⟩
          have HB4 := Lib.hid hb
          clear hb
          go_wp2
          go_ret
          exact ⟨rfl, HB4.out⟩
    · have hltz : ¬ (m : Int) < (s.size : Int) := by omega
      have HNB : Hid (NoB s.data.toList) := Lib.hid (fun i h => HN.out i h (by rw [HLEN.out] at h; omega))
      have hc1 := HC12.out.1
      have hc2 := HC12.out.2
      have hs9 := HS9.out
      clear hm hlt hk
      rcases Line_all s (by omega) with ⟨rs, ts, hus, hls, hcs1⟩ | ⟨-, hcs1⟩
      · rcases Line_all t (by omega) with ⟨rt, tt, hut, hlt, hct1⟩ | ⟨-, hct1⟩
        · obtain ⟨x, hux, hlx⟩ := both_yes hus hut hls hlt HNB.out
          have HC1 := Lib.hid hcs1
          have HC2 := Lib.hid hct1
          have HC3 := Lib.hid (Line_is (bothB s t) HCS.out hux hlx)
          have HLS : Hid (ts.length ≤ 200) := Lib.hid (by
            have := line_len hls
            have := hus.len
            have h2 := HLEN.out
            omega)
          have HLT : Hid (tt.length ≤ 200) := Lib.hid (by
            have := line_len hlt
            have := hut.len
            have h2 : t.data.toList.length = t.size := by simp
            omega)
          obtain ⟨N3, hN3⟩ : ∃ n, n = (ts ++ tt).length := ⟨_, rfl⟩
          have HAPP : Hid (N3 = ts.length + tt.length) := Lib.hid (by rw [hN3, List.length_append])
          have HN3 := Lib.hid hN3
          clear hN3
          clear hcs1 hct1 hus hls hut hlt hux hlx hs9
          go_wp2_with fail
          refine (HC1.out _ HT.out).mono ?_
          rintro e w1 ⟨a1, c1, rfl, hs1, hn1, hb⟩
          have HB1 := Lib.hid hb
          have HS1 := Lib.hid hs1
          have HN1 := Lib.hid hn1
          clear hb hs1 hn1
          go_wp2_with fail
          refine (HC2.out _ (HT.out.next HB1.out)).mono ?_
          rintro e w2 ⟨a2, c2, rfl, hs2, hn2, hb⟩
          have HB2 := Lib.hid (after HB1.out hb)
          have HS2 := Lib.hid hs2
          have HN2 := Lib.hid hn2
          replace HS1 := Lib.hid (HS1.out.next hb)
          clear hb hs2 hn2
          go_wp2_with fail
          refine (HC3.out _ (HT.out.next HB2.out)).mono ?_
          rintro e w3 ⟨a3, c3, rfl, hs3, -, hb⟩
          rw [← HN3.out] at hs3 ⊢
          have HB3 := Lib.hid (after HB2.out hb)
          have HS3 := Lib.hid hs3
          replace HS1 := Lib.hid (HS1.out.next hb)
          replace HS2 := Lib.hid (HS2.out.next hb)
          clear hb hs3
          obtain ⟨n1, hn1⟩ : ∃ n, n = ts.length := ⟨_, rfl⟩
          obtain ⟨n2, hn2⟩ : ∃ n, n = tt.length := ⟨_, rfl⟩
          rw [← hn1] at HS1 HN1 HLS HAPP ⊢
          rw [← hn2] at HS2 HN2 HLT HAPP ⊢
          have q1 : 0 + n1 ≤ maxLen := by have := HLS.out; unfold maxLen; omega
          have q2 : (0 + n1) * 32 ≤ 140737488355328 := by have := HLS.out; omega
          have q3 : 0 + n1 + n2 ≤ maxLen := by have := HLS.out; have := HLT.out; unfold maxLen; omega
          have q4 : (0 + n1 + n2) * 32 ≤ 140737488355328 := by have := HLS.out; have := HLT.out; omega
          have tok1 : True := trivial
          have HNN := Lib.hid (And.intro hn1 hn2)
          clear hn1 hn2
          go_wp2_with (first | (at_builtin; have _t := tok1; refine append_SL rfl _ _ 26 rfl w3.heap.size 31 i0 _ 32 Tryd.underlying26 hi hz0 hz1 hz2 rfl (by decide) tkC_len (fun t => tk_one t) _ 0 [] rfl (World.ownsRow_nil _ _ _ _) a1 n1 c1 ts rfl HS1.out HN1.out q1 q2 (Nat.le_refl _) ?_; intro v1 w4 hown1 hbl1 hgr1; clear tok1) | (at_builtin; refine append_SL rfl _ _ 26 rfl w3.heap.size 31 i0 _ 32 Tryd.underlying26 hi hz0 hz1 hz2 rfl (by decide) tkC_len (fun t => tk_one t) _ (0 + n1) ([] ++ ts) rfl hown1 a2 n2 c2 tt rfl (HS2.out.next hbl1) HN2.out q3 q4 hbl1.size ?_; intro v2 w5 hown2 hbl2 hgr2) | fail)
          obtain ⟨nn, hnn⟩ : ∃ nn, nn = 0 + n1 + n2 := ⟨_, rfl⟩
          rw [← hnn] at hown2
          have hnl : nn = N3 := by have := HAPP.out; omega
          rw [List.nil_append] at hown2
          rw [hnl] at hown2
          obtain ⟨a', c', hv2, hsl, hnil⟩ := SL.ofOwns tkC_len (by omega) hown2
          subst hv2
          have HSL := Lib.hid hsl
          have HB5 := Lib.hid ((after HB3.out hbl1).trans (hbl2.mono (HB3.out.size)))
          replace HS3 := Lib.hid (((HS3.out.below hbl1).below hbl2).up (Nat.le_trans hbl1.size hbl2.size))
          clear hown1 hown2 hgr1 hgr2 hsl hnil hbl1 hbl2 hnn hnl
          go_wp2_with fail
          refine (read_any _ (HT.out.next HB5.out)).mono ?_
          rintro e w6 ⟨rfl, hb⟩
          have HB6 := Lib.hid (after HB5.out hb)
          replace HS3 := Lib.hid (HS3.out.next hb)
          replace HSL := Lib.hid (HSL.out.next hb)
          clear hb
          go_wp2_with fail
          with_reducible refine (Same_is a3 a' N3 N3 c3 c' (ts ++ tt) _ ?_ ?_ HS3.out HSL.out).mono ?_
          rotate_left 2
          · rintro e w7 ⟨rfl, hb⟩
            have HB7 := Lib.hid (after HB6.out hb)
            clear hb
            go_wp2
            go_ret
            exact ⟨rfl, HB7.out⟩
          · have := HLS.out; have := HLT.out; rw [HAPP.out]; omega
          · have := HLS.out; have := HLT.out; rw [HAPP.out]; omega
        · have HC1 := Lib.hid hcs1
          have HC2 := Lib.hid hct1
          rcases Line_all (bothB s t) HCS.out with ⟨x, tx, -, -, hc3⟩ | ⟨-, hc3⟩
          · have HC3 := Lib.hid hc3
            clear hcs1 hct1 hc3 hs9
            go_wp2_with fail
            refine (HC1.out _ HT.out).mono ?_
            rintro e w1 ⟨a1, c1, rfl, -, -, hb⟩
            have HB1 := Lib.hid hb
            clear hb
            go_wp2_with fail
            refine (HC2.out _ (HT.out.next HB1.out)).mono ?_
            rintro e w2 ⟨rfl, hb⟩
            have HB2 := Lib.hid (after HB1.out hb)
            clear hb
            go_wp2_with fail
            refine (HC3.out _ (HT.out.next HB2.out)).mono ?_
            rintro e w3 ⟨a3, c3, rfl, -, -, hb⟩
            have HB3 := Lib.hid (after HB2.out hb)
            clear hb
            go_wp2_with fail
            refine (read_any _ (HT.out.next HB3.out)).mono ?_
            rintro e w4 ⟨rfl, hb⟩
            have HB4 := Lib.hid (after HB3.out hb)
            clear hb
            go_wp2
            go_ret
            exact ⟨rfl, HB4.out⟩
          · have HC3 := Lib.hid hc3
            clear hcs1 hct1 hc3 hs9
            go_wp2_with fail
            refine (HC1.out _ HT.out).mono ?_
            rintro e w1 ⟨a1, c1, rfl, -, -, hb⟩
            have HB1 := Lib.hid hb
            clear hb
            go_wp2_with fail
            refine (HC2.out _ (HT.out.next HB1.out)).mono ?_
            rintro e w2 ⟨rfl, hb⟩
            have HB2 := Lib.hid (after HB1.out hb)
            clear hb
            go_wp2_with fail
            refine (HC3.out _ (HT.out.next HB2.out)).mono ?_
            rintro e w3 ⟨rfl, hb⟩
            have HB3 := Lib.hid (after HB2.out hb)
            clear hb
            go_wp2_with fail
            refine (read_any _ (HT.out.next HB3.out)).mono ?_
            rintro e w4 ⟨rfl, hb⟩
            have HB4 := Lib.hid (after HB3.out hb)
            clear hb
            go_wp2
            go_ret
            exact ⟨rfl, HB4.out⟩
      · rcases Line_all t (by omega) with ⟨rt, tt, hut, hlt, hct1⟩ | ⟨-, hct1⟩
        · have HC1 := Lib.hid hcs1
          have HC2 := Lib.hid hct1
          rcases Line_all (bothB s t) HCS.out with ⟨x, tx, -, -, hc3⟩ | ⟨-, hc3⟩
          · have HC3 := Lib.hid hc3
            clear hcs1 hct1 hc3 hs9 hut hlt
            go_wp2_with fail
            refine (HC1.out _ HT.out).mono ?_
            rintro e w1 ⟨rfl, hb⟩
            have HB1 := Lib.hid hb
            clear hb
            go_wp2_with fail
            refine (HC2.out _ (HT.out.next HB1.out)).mono ?_
            rintro e w2 ⟨a2, c2, rfl, -, -, hb⟩
            have HB2 := Lib.hid (after HB1.out hb)
            clear hb
            go_wp2_with fail
            refine (HC3.out _ (HT.out.next HB2.out)).mono ?_
            rintro e w3 ⟨a3, c3, rfl, -, -, hb⟩
            have HB3 := Lib.hid (after HB2.out hb)
            clear hb
            go_wp2_with fail
            refine (read_any _ (HT.out.next HB3.out)).mono ?_
            rintro e w4 ⟨rfl, hb⟩
            have HB4 := Lib.hid (after HB3.out hb)
            clear hb
            go_wp2
            go_ret
            exact ⟨rfl, HB4.out⟩
          · have HC3 := Lib.hid hc3
            clear hcs1 hct1 hc3 hs9 hut hlt
            go_wp2_with fail
            refine (HC1.out _ HT.out).mono ?_
            rintro e w1 ⟨rfl, hb⟩
            have HB1 := Lib.hid hb
            clear hb
            go_wp2_with fail
            refine (HC2.out _ (HT.out.next HB1.out)).mono ?_
            rintro e w2 ⟨a2, c2, rfl, -, -, hb⟩
            have HB2 := Lib.hid (after HB1.out hb)
            clear hb
            go_wp2_with fail
            refine (HC3.out _ (HT.out.next HB2.out)).mono ?_
            rintro e w3 ⟨rfl, hb⟩
            have HB3 := Lib.hid (after HB2.out hb)
            clear hb
            go_wp2_with fail
            refine (read_any _ (HT.out.next HB3.out)).mono ?_
            rintro e w4 ⟨rfl, hb⟩
            have HB4 := Lib.hid (after HB3.out hb)
            clear hb
            go_wp2
            go_ret
            exact ⟨rfl, HB4.out⟩
        · have HC1 := Lib.hid hcs1
          have HC2 := Lib.hid hct1
          rcases Line_all (bothB s t) HCS.out with ⟨x, tx, -, -, hc3⟩ | ⟨-, hc3⟩
          · have HC3 := Lib.hid hc3
            clear hcs1 hct1 hc3 hs9
            go_wp2_with fail
            refine (HC1.out _ HT.out).mono ?_
            rintro e w1 ⟨rfl, hb⟩
            have HB1 := Lib.hid hb
            clear hb
            go_wp2_with fail
            refine (HC2.out _ (HT.out.next HB1.out)).mono ?_
            rintro e w2 ⟨rfl, hb⟩
            have HB2 := Lib.hid (after HB1.out hb)
            clear hb
            go_wp2_with fail
            refine (HC3.out _ (HT.out.next HB2.out)).mono ?_
            rintro e w3 ⟨a3, c3, rfl, -, -, hb⟩
            have HB3 := Lib.hid (after HB2.out hb)
            clear hb
            go_wp2_with fail
            refine (read_any _ (HT.out.next HB3.out)).mono ?_
            rintro e w4 ⟨rfl, hb⟩
            have HB4 := Lib.hid (after HB3.out hb)
            clear hb
            go_wp2
            go_ret
            exact ⟨rfl, HB4.out⟩
          · have HC3 := Lib.hid hc3
            clear hcs1 hct1 hc3 hs9
            go_wp2_with fail
            refine (HC1.out _ HT.out).mono ?_
            rintro e w1 ⟨rfl, hb⟩
            have HB1 := Lib.hid hb
            clear hb
            go_wp2_with fail
            refine (HC2.out _ (HT.out.next HB1.out)).mono ?_
            rintro e w2 ⟨rfl, hb⟩
            have HB2 := Lib.hid (after HB1.out hb)
            clear hb
            go_wp2_with fail
            refine (HC3.out _ (HT.out.next HB2.out)).mono ?_
            rintro e w3 ⟨rfl, hb⟩
            have HB3 := Lib.hid (after HB2.out hb)
            clear hb
            go_wp2_with fail
            refine (read_any _ (HT.out.next HB3.out)).mono ?_
            rintro e w4 ⟨rfl, hb⟩
            have HB4 := Lib.hid (after HB3.out hb)
            clear hb
            go_wp2
            go_ret
            exact ⟨rfl, HB4.out⟩
end Go.Proofs.YtngoipcjipbelaaDoor
