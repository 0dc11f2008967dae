/- The reference's Reads. -/
import Derived.Test.YtjnmkelppjcofaaDoorD5
import Derived.Test.YtjnmkelppjcofaaDoorD7
namespace Go.Proofs.YtjnmkelppjcofaaDoor
set_option linter.unusedVariables false
set_option linter.unusedSimpArgs false
open Go.RowKit

/-- A row of ints, wherever it lies. -/
def Row (l : List Int) (v : Value) (w : World) : Prop := ∃ a c, v = .slice a l.length c ∧ SL encI 1 w w.heap.size a l.length l ∧ (a = none → l.length = 0 ∧ c = 0)
theorem Row.nil (w : World) : Row [] (.slice none 0 0) w := ⟨none, 0, rfl, SL.nil _ _ _, fun _ => ⟨rfl, rfl⟩⟩
theorem Row.next {l : List Int} {v : Value} {w w' : World} (h : Row l v w) (hb : Below w.heap.size w w') : Row l v w' := by
  obtain ⟨a, c, rfl, hs, hn⟩ := h
  exact ⟨a, c, rfl, hs.next hb, hn⟩
theorem with_row {l : List Int} {v : Value} {w : World} (x : Int) (h : Row l v w) (hl : l.length ≤ 40) : Calls Tryd.prog 41 #[v, .int .i64 x] w (fun e w' => ∃ u, e = .returned u ∧ Row (putL true x l) u w' ∧ Below w.heap.size w w') := by
  obtain ⟨a, c, rfl, hs, hn⟩ := h
  refine (with_any a _ c l x w hl hs).mono ?_
  rintro e w' ⟨a', c', rfl, hs', hn', hb⟩
  exact ⟨_, rfl, ⟨a', c', rfl, hs', hn'⟩, hb⟩

set_option maxRecDepth 100000 in
set_option maxHeartbeats 4000000 in
theorem RReads_yes (i : In) (w : World) (s : Nat) (hs : s ≤ 16) (hsz : shapeI i.op = s) (hi : InB i) (h : isI i = true) : Calls Tryd.prog 16 #[inV i] w (RetL (readsR i) w) := by
  have HIs : Hid (∀ w, Calls Tryd.prog 13 #[inV i] w (RetB (.bool true) w)) := Lib.hid fun w => by have := RIs_any i hi w; rwa [h] at this
  have HRR : Hid (readsR i = putL (i.op == 37) 0 (putL (c4 i.op i.d) i.d (putL (c3 s i.a) i.a (putL (c2 s i.m) i.m (putL (c1 s i.n) i.n []))))) := Lib.hid (by unfold readsR; rw [hsz])
  have HSh : Hid (∀ w, Calls Tryd.prog 20 #[.int .i64 i.op] w (RetB (.int .i64 s) w)) := Lib.hid fun w => by have := RShape_any i.op w; rwa [hsz] at this
  have ht := hasR_tab ⟨s, by omega⟩
  simp only [Prod.mk.injEq] at ht
  obtain ⟨-, t2, t3, t4, -⟩ := ht
  have HHn : Hid (∀ w, Calls Tryd.prog 28 #[.int .i64 s, .string ⟨#[110]⟩] w (RetB (.bool (hasNb s)) w)) := Lib.hid fun w => by have := Has_any s hs 110 w; rwa [t2] at this
  have HHm : Hid (∀ w, Calls Tryd.prog 28 #[.int .i64 s, .string ⟨#[109]⟩] w (RetB (.bool (hasMb s)) w)) := Lib.hid fun w => by have := Has_any s hs 109 w; rwa [t3] at this
  have HHa : Hid (∀ w, Calls Tryd.prog 28 #[.int .i64 s, .string ⟨#[97]⟩] w (RetB (.bool ((s : Int) == 6)) w)) := Lib.hid fun w => by have := Has_any s hs 97 w; rwa [t4] at this
  have H1 : Hid (c1 s i.n = (hasNb s && (decide (i.n < 31) || (s : Int) == 2 || (s : Int) == 7 || (s : Int) == 8))) := Lib.hid rfl
  have H2 : Hid (c2 s i.m = (hasMb s && decide (i.m < 31))) := Lib.hid rfl
  have H3 : Hid (c3 s i.a = ((s : Int) == 6 && decide (i.a < 31))) := Lib.hid rfl
  have H4 : Hid (c4 i.op i.d = (decide (i.d < 31) && (i.op == 3 || i.op == 23 || i.op == 25 || i.op == 32 || i.op == 33))) := Lib.hid rfl
  have hten := Ten.made w i 24
  obtain ⟨X, hX⟩ : ∃ X, X = w.heap.size := ⟨_, rfl⟩
  obtain ⟨W0, hW0⟩ : ∃ W0, W0 = w.alloc (.cells (inC i) 24) := ⟨_, rfl⟩
  have hXl : X < W0.heap.size := by rw [hX, hW0]; simp
  rw [← hW0, ← hX] at hten
  have HW : Hid (Below w.heap.size w W0) := Lib.hid (by rw [hW0]; exact (Below.refl _ w).alloc (Nat.le_refl _) _)
  clear h hi hsz t2 t3 t4
  obtain ⟨o, d, n, m, a, x, k, hh, t, c⟩ := i
  simp only [] at HRR HSh H1 H2 H3 H4
  generalize readsR ⟨o, d, n, m, a, x, k, hh, t, c⟩ = RR at *
  have HT := Lib.hid hten
  have HB := Lib.hid (Below.refl W0.heap.size W0)
  have HEQ := Lib.hid hW0
  have HXQ := Lib.hid hX
  obtain ⟨a0, a1, a2, a3, a4, a5, a6, a7, a8, a9⟩ := hten
  clear hW0 hX
  go_enter Tryd.func16, Tryd.ntmps16
  go_wp2_with fail
  rw [← HEQ.out, ← HXQ.out]
  go_upto_region 5 with (first | (go_at_call 13; ((with_reducible refine (HIs.out _).mono ?_); rintro e w' ⟨rfl, hb⟩; replace HB := Lib.hid (after HB.out hb); clear hb; clear a0 a1 a2 a3 a4 a5 a6 a7 a8 a9; obtain ⟨a0, a1, a2, a3, a4, a5, a6, a7, a8, a9⟩ := HT.out.below HB.out hXl)) | (go_at_call 20; ((with_reducible refine (HSh.out _).mono ?_); rintro e w' ⟨rfl, hb⟩; replace HB := Lib.hid (after HB.out hb); clear hb; clear a0 a1 a2 a3 a4 a5 a6 a7 a8 a9; obtain ⟨a0, a1, a2, a3, a4, a5, a6, a7, a8, a9⟩ := HT.out.below HB.out hXl)))
  have HROW : Hid (Row [] (.slice none 0 0) w') := Lib.hid (Row.nil _)
  have HLEN : Hid (([] : List Int).length ≤ 0) := Lib.hid (Nat.le_refl _)
  go_cut [29] (fun u wx => u = .bool (c1 s n) ∧ Below w'.heap.size w' wx)
  case first =>
    generalize c1 s n = CC at *
    generalize hasNb s = bb at *
    cases bb
    · go_wp2_with fail
      refine (HHn.out _).mono ?_
      rintro e w' ⟨rfl, hb⟩
      have HB5 := Lib.hid hb
      replace HB := Lib.hid (after HB.out hb)
      clear hb
      clear a0 a1 a2 a3 a4 a5 a6 a7 a8 a9; obtain ⟨a0, a1, a2, a3, a4, a5, a6, a7, a8, a9⟩ := HT.out.below HB.out hXl
      go_wp2
      go_meet
      exact ⟨by rw [H1.out]; rfl, HB5.out⟩
    · by_cases g0 : n < 31
      · skip
        go_wp2_with fail
        refine (HHn.out _).mono ?_
        rintro e w' ⟨rfl, hb⟩
        have HB5 := Lib.hid hb
        replace HB := Lib.hid (after HB.out hb)
        clear hb
        clear a0 a1 a2 a3 a4 a5 a6 a7 a8 a9; obtain ⟨a0, a1, a2, a3, a4, a5, a6, a7, a8, a9⟩ := HT.out.below HB.out hXl
        go_wp2
        all_goals go_meet
        all_goals exact ⟨by rw [H1.out]; (simp_all <;> omega), HB5.out⟩
      · skip
        by_cases z2 : s = 2
        · subst z2
          go_wp2_with fail
          refine (HHn.out _).mono ?_
          rintro e w' ⟨rfl, hb⟩
          have HB5 := Lib.hid hb
          replace HB := Lib.hid (after HB.out hb)
          clear hb
          clear a0 a1 a2 a3 a4 a5 a6 a7 a8 a9; obtain ⟨a0, a1, a2, a3, a4, a5, a6, a7, a8, a9⟩ := HT.out.below HB.out hXl
          go_wp2
          all_goals go_meet
          all_goals exact ⟨by rw [H1.out]; (simp_all <;> omega), HB5.out⟩
        have q2 : ((s : Int) == 2) = false := by rw [beq_eq_false_iff_ne]; omega
        by_cases z7 : s = 7
        · subst z7
          go_wp2_with fail
          refine (HHn.out _).mono ?_
          rintro e w' ⟨rfl, hb⟩
          have HB5 := Lib.hid hb
          replace HB := Lib.hid (after HB.out hb)
          clear hb
          clear a0 a1 a2 a3 a4 a5 a6 a7 a8 a9; obtain ⟨a0, a1, a2, a3, a4, a5, a6, a7, a8, a9⟩ := HT.out.below HB.out hXl
          go_wp2
          all_goals go_meet
          all_goals exact ⟨by rw [H1.out]; (simp_all <;> omega), HB5.out⟩
        have q7 : ((s : Int) == 7) = false := by rw [beq_eq_false_iff_ne]; omega
        by_cases z8 : s = 8
        · subst z8
          go_wp2_with fail
          refine (HHn.out _).mono ?_
          rintro e w' ⟨rfl, hb⟩
          have HB5 := Lib.hid hb
          replace HB := Lib.hid (after HB.out hb)
          clear hb
          clear a0 a1 a2 a3 a4 a5 a6 a7 a8 a9; obtain ⟨a0, a1, a2, a3, a4, a5, a6, a7, a8, a9⟩ := HT.out.below HB.out hXl
          go_wp2
          all_goals go_meet
          all_goals exact ⟨by rw [H1.out]; (simp_all <;> omega), HB5.out⟩
        have q8 : ((s : Int) == 8) = false := by rw [beq_eq_false_iff_ne]; omega
        go_wp2_with fail
        refine (HHn.out _).mono ?_
        rintro e w' ⟨rfl, hb⟩
        have HB5 := Lib.hid hb
        replace HB := Lib.hid (after HB.out hb)
        clear hb
        clear a0 a1 a2 a3 a4 a5 a6 a7 a8 a9; obtain ⟨a0, a1, a2, a3, a4, a5, a6, a7, a8, a9⟩ := HT.out.below HB.out hXl
        go_wp2
        all_goals go_meet
        all_goals exact ⟨by rw [H1.out, decide_eq_false (show ¬ n < 31 by omega), q2, q7, q8]; rfl, HB5.out⟩
  case rest =>
    obtain ⟨rfl, hb⟩ := hcut
    replace HB := Lib.hid (after HB.out hb)
    replace HROW := Lib.hid (HROW.out.next hb)
    clear hb
    clear a0 a1 a2 a3 a4 a5 a6 a7 a8 a9; obtain ⟨a0, a1, a2, a3, a4, a5, a6, a7, a8, a9⟩ := HT.out.below HB.out hXl
    generalize c1 s n = b1 at *
    obtain ⟨LN, hLN⟩ : ∃ LN, LN = putL b1 n [] := ⟨_, rfl⟩
    have HLN := Lib.hid hLN
    rw [← hLN] at HRR
    clear hLN
    obtain ⟨wd, hwd⟩ : ∃ wd, wd = wc := ⟨_, rfl⟩
    subst hwd
    go_upto_if 29 with (fail)
    go_cut [4] (fun u wx => Row LN u wx ∧ Below wd.heap.size wd wx)
    case first =>
      cases b1
      · go_wp2
        go_meet
        exact ⟨by rw [HLN.out]; exact HROW.out, Below.refl _ _⟩
      · go_wp2_with (go_at_call 41; ((with_reducible refine (with_row _ HROW.out (by have := HLEN.out; omega)).mono ?_); rintro e w' ⟨u, rfl, hrow, hb⟩))
        go_meet
        exact ⟨by rw [HLN.out]; exact hrow, hb⟩
    case rest =>
      obtain ⟨hrow, hb⟩ := hcut
      replace HB := Lib.hid (after HB.out hb)
      replace HROW := Lib.hid hrow
      replace HLEN : Hid (LN.length ≤ 1) := Lib.hid (by rw [HLN.out]; have := putL_len b1 n ([]); have := HLEN.out; omega)
      clear hb hrow HLN
      clear a0 a1 a2 a3 a4 a5 a6 a7 a8 a9; obtain ⟨a0, a1, a2, a3, a4, a5, a6, a7, a8, a9⟩ := HT.out.below HB.out hXl
      generalize LN = LL1 at *
      go_upto_region 7 with (fail)
      go_cut [40] (fun u wx => u = .bool (c2 s m) ∧ Below wc.heap.size wc wx)
      case first =>
        generalize c2 s m = CC at *
        generalize hasMb s = bb at *
        cases bb
        · go_wp2_with fail
          refine (HHm.out _).mono ?_
          rintro e w' ⟨rfl, hb⟩
          have HB5 := Lib.hid hb
          replace HB := Lib.hid (after HB.out hb)
          clear hb
          clear a0 a1 a2 a3 a4 a5 a6 a7 a8 a9; obtain ⟨a0, a1, a2, a3, a4, a5, a6, a7, a8, a9⟩ := HT.out.below HB.out hXl
          go_wp2
          go_meet
          exact ⟨by rw [H2.out]; rfl, HB5.out⟩
        · by_cases g0 : m < 31
          · skip
            go_wp2_with fail
            refine (HHm.out _).mono ?_
            rintro e w' ⟨rfl, hb⟩
            have HB5 := Lib.hid hb
            replace HB := Lib.hid (after HB.out hb)
            clear hb
            clear a0 a1 a2 a3 a4 a5 a6 a7 a8 a9; obtain ⟨a0, a1, a2, a3, a4, a5, a6, a7, a8, a9⟩ := HT.out.below HB.out hXl
            go_wp2
            all_goals go_meet
            all_goals exact ⟨by rw [H2.out]; (simp_all <;> omega), HB5.out⟩
          · skip
            go_wp2_with fail
            refine (HHm.out _).mono ?_
            rintro e w' ⟨rfl, hb⟩
            have HB5 := Lib.hid hb
            replace HB := Lib.hid (after HB.out hb)
            clear hb
            clear a0 a1 a2 a3 a4 a5 a6 a7 a8 a9; obtain ⟨a0, a1, a2, a3, a4, a5, a6, a7, a8, a9⟩ := HT.out.below HB.out hXl
            go_wp2
            all_goals go_meet
            all_goals exact ⟨by rw [H2.out]; (simp_all <;> omega), HB5.out⟩
      case rest =>
        obtain ⟨rfl, hb⟩ := hcut
        replace HB := Lib.hid (after HB.out hb)
        replace HROW := Lib.hid (HROW.out.next hb)
        clear hb
        clear a0 a1 a2 a3 a4 a5 a6 a7 a8 a9; obtain ⟨a0, a1, a2, a3, a4, a5, a6, a7, a8, a9⟩ := HT.out.below HB.out hXl
        generalize c2 s m = b2 at *
        obtain ⟨LN, hLN⟩ : ∃ LN, LN = putL b2 m LL1 := ⟨_, rfl⟩
        have HLN := Lib.hid hLN
        rw [← hLN] at HRR
        clear hLN
        obtain ⟨wd, hwd⟩ : ∃ wd, wd = wc := ⟨_, rfl⟩
        subst hwd
        go_upto_if 40 with (fail)
        go_cut [4] (fun u wx => Row LN u wx ∧ Below wd.heap.size wd wx)
        case first =>
          cases b2
          · go_wp2
            go_meet
            exact ⟨by rw [HLN.out]; exact HROW.out, Below.refl _ _⟩
          · go_wp2_with (go_at_call 41; ((with_reducible refine (with_row _ HROW.out (by have := HLEN.out; omega)).mono ?_); rintro e w' ⟨u, rfl, hrow, hb⟩))
            go_meet
            exact ⟨by rw [HLN.out]; exact hrow, hb⟩
        case rest =>
          obtain ⟨hrow, hb⟩ := hcut
          replace HB := Lib.hid (after HB.out hb)
          replace HROW := Lib.hid hrow
          replace HLEN : Hid (LN.length ≤ 2) := Lib.hid (by rw [HLN.out]; have := putL_len b2 m (LL1); have := HLEN.out; omega)
          clear hb hrow HLN
          clear a0 a1 a2 a3 a4 a5 a6 a7 a8 a9; obtain ⟨a0, a1, a2, a3, a4, a5, a6, a7, a8, a9⟩ := HT.out.below HB.out hXl
          generalize LN = LL2 at *
          go_upto_region 9 with (fail)
          go_cut [51] (fun u wx => u = .bool (c3 s a) ∧ Below wc.heap.size wc wx)
          case first =>
            generalize c3 s a = CC at *
            generalize ((s : Int) == 6) = bb at *
            cases bb
            · go_wp2_with fail
              refine (HHa.out _).mono ?_
              rintro e w' ⟨rfl, hb⟩
              have HB5 := Lib.hid hb
              replace HB := Lib.hid (after HB.out hb)
              clear hb
              clear a0 a1 a2 a3 a4 a5 a6 a7 a8 a9; obtain ⟨a0, a1, a2, a3, a4, a5, a6, a7, a8, a9⟩ := HT.out.below HB.out hXl
              go_wp2
              go_meet
              exact ⟨by rw [H3.out]; rfl, HB5.out⟩
            · by_cases g0 : a < 31
              · skip
                go_wp2_with fail
                refine (HHa.out _).mono ?_
                rintro e w' ⟨rfl, hb⟩
                have HB5 := Lib.hid hb
                replace HB := Lib.hid (after HB.out hb)
                clear hb
                clear a0 a1 a2 a3 a4 a5 a6 a7 a8 a9; obtain ⟨a0, a1, a2, a3, a4, a5, a6, a7, a8, a9⟩ := HT.out.below HB.out hXl
                go_wp2
                all_goals go_meet
                all_goals exact ⟨by rw [H3.out]; (simp_all <;> omega), HB5.out⟩
              · skip
                go_wp2_with fail
                refine (HHa.out _).mono ?_
                rintro e w' ⟨rfl, hb⟩
                have HB5 := Lib.hid hb
                replace HB := Lib.hid (after HB.out hb)
                clear hb
                clear a0 a1 a2 a3 a4 a5 a6 a7 a8 a9; obtain ⟨a0, a1, a2, a3, a4, a5, a6, a7, a8, a9⟩ := HT.out.below HB.out hXl
                go_wp2
                all_goals go_meet
                all_goals exact ⟨by rw [H3.out]; (simp_all <;> omega), HB5.out⟩
          case rest =>
            obtain ⟨rfl, hb⟩ := hcut
            replace HB := Lib.hid (after HB.out hb)
            replace HROW := Lib.hid (HROW.out.next hb)
            clear hb
            clear a0 a1 a2 a3 a4 a5 a6 a7 a8 a9; obtain ⟨a0, a1, a2, a3, a4, a5, a6, a7, a8, a9⟩ := HT.out.below HB.out hXl
            generalize c3 s a = b3 at *
            obtain ⟨LN, hLN⟩ : ∃ LN, LN = putL b3 a LL2 := ⟨_, rfl⟩
            have HLN := Lib.hid hLN
            rw [← hLN] at HRR
            clear hLN
            obtain ⟨wd, hwd⟩ : ∃ wd, wd = wc := ⟨_, rfl⟩
            subst hwd
            go_upto_if 51 with (fail)
            go_cut [4] (fun u wx => Row LN u wx ∧ Below wd.heap.size wd wx)
            case first =>
              cases b3
              · go_wp2
                go_meet
                exact ⟨by rw [HLN.out]; exact HROW.out, Below.refl _ _⟩
              · go_wp2_with (go_at_call 41; ((with_reducible refine (with_row _ HROW.out (by have := HLEN.out; omega)).mono ?_); rintro e w' ⟨u, rfl, hrow, hb⟩))
                go_meet
                exact ⟨by rw [HLN.out]; exact hrow, hb⟩
            case rest =>
              obtain ⟨hrow, hb⟩ := hcut
              replace HB := Lib.hid (after HB.out hb)
              replace HROW := Lib.hid hrow
              replace HLEN : Hid (LN.length ≤ 3) := Lib.hid (by rw [HLN.out]; have := putL_len b3 a (LL2); have := HLEN.out; omega)
              clear hb hrow HLN
              clear a0 a1 a2 a3 a4 a5 a6 a7 a8 a9; obtain ⟨a0, a1, a2, a3, a4, a5, a6, a7, a8, a9⟩ := HT.out.below HB.out hXl
              generalize LN = LL3 at *
              go_upto_region 11 with (fail)
              go_cut [83] (fun u wx => u = .bool (c4 o d) ∧ Below wc.heap.size wc wx)
              case first =>
                generalize c4 o d = CC at *
                by_cases g0 : d < 31
                · skip
                  by_cases z3 : o = 3
                  · subst z3
                    go_wp2
                    all_goals go_meet
                    all_goals exact ⟨by rw [H4.out]; (simp_all <;> omega), Below.refl _ _⟩
                  have q3 : (o == 3) = false := by rw [beq_eq_false_iff_ne]; omega
                  by_cases z23 : o = 23
                  · subst z23
                    go_wp2
                    all_goals go_meet
                    all_goals exact ⟨by rw [H4.out]; (simp_all <;> omega), Below.refl _ _⟩
                  have q23 : (o == 23) = false := by rw [beq_eq_false_iff_ne]; omega
                  by_cases z25 : o = 25
                  · subst z25
                    go_wp2
                    all_goals go_meet
                    all_goals exact ⟨by rw [H4.out]; (simp_all <;> omega), Below.refl _ _⟩
                  have q25 : (o == 25) = false := by rw [beq_eq_false_iff_ne]; omega
                  by_cases z32 : o = 32
                  · subst z32
                    go_wp2
                    all_goals go_meet
                    all_goals exact ⟨by rw [H4.out]; (simp_all <;> omega), Below.refl _ _⟩
                  have q32 : (o == 32) = false := by rw [beq_eq_false_iff_ne]; omega
                  by_cases z33 : o = 33
                  · subst z33
                    go_wp2
                    all_goals go_meet
                    all_goals exact ⟨by rw [H4.out]; (simp_all <;> omega), Below.refl _ _⟩
                  have q33 : (o == 33) = false := by rw [beq_eq_false_iff_ne]; omega
                  go_wp2
                  all_goals go_meet
                  all_goals exact ⟨by rw [H4.out]; (simp_all <;> omega), Below.refl _ _⟩
                · skip
                  go_wp2
                  all_goals go_meet
                  all_goals exact ⟨by rw [H4.out]; (simp_all <;> omega), Below.refl _ _⟩
              case rest =>
                obtain ⟨rfl, hb⟩ := hcut
                replace HB := Lib.hid (after HB.out hb)
                replace HROW := Lib.hid (HROW.out.next hb)
                clear hb
                clear a0 a1 a2 a3 a4 a5 a6 a7 a8 a9; obtain ⟨a0, a1, a2, a3, a4, a5, a6, a7, a8, a9⟩ := HT.out.below HB.out hXl
                generalize c4 o d = b4 at *
                obtain ⟨LN, hLN⟩ : ∃ LN, LN = putL b4 d LL3 := ⟨_, rfl⟩
                have HLN := Lib.hid hLN
                rw [← hLN] at HRR
                clear hLN
                obtain ⟨wd, hwd⟩ : ∃ wd, wd = wc := ⟨_, rfl⟩
                subst hwd
                go_upto_if 83 with (fail)
                go_cut [4] (fun u wx => Row LN u wx ∧ Below wd.heap.size wd wx)
                case first =>
                  cases b4
                  · go_wp2
                    go_meet
                    exact ⟨by rw [HLN.out]; exact HROW.out, Below.refl _ _⟩
                  · go_wp2_with (go_at_call 41; ((with_reducible refine (with_row _ HROW.out (by have := HLEN.out; omega)).mono ?_); rintro e w' ⟨u, rfl, hrow, hb⟩))
                    go_meet
                    exact ⟨by rw [HLN.out]; exact hrow, hb⟩
                case rest =>
                  obtain ⟨hrow, hb⟩ := hcut
                  replace HB := Lib.hid (after HB.out hb)
                  replace HROW := Lib.hid hrow
                  replace HLEN : Hid (LN.length ≤ 4) := Lib.hid (by rw [HLN.out]; have := putL_len b4 d (LL3); have := HLEN.out; omega)
                  clear hb hrow HLN
                  clear a0 a1 a2 a3 a4 a5 a6 a7 a8 a9; obtain ⟨a0, a1, a2, a3, a4, a5, a6, a7, a8, a9⟩ := HT.out.below HB.out hXl
                  generalize LN = LL4 at *
                  go_upto_region 13 with (fail)
                  go_cut [90] (fun u wx => u = .bool ((o == 37)) ∧ Below wc.heap.size wc wx)
                  case first =>
                    by_cases z37 : o = 37
                    · subst z37
                      go_wp2
                      go_meet
                      exact ⟨by simp_all, Below.refl _ _⟩
                    · have g0 : (o == 37) = false := by rw [beq_eq_false_iff_ne]; omega
                      go_wp2
                      go_meet
                      exact ⟨by simp_all, Below.refl _ _⟩
                  case rest =>
                    obtain ⟨rfl, hb⟩ := hcut
                    replace HB := Lib.hid (after HB.out hb)
                    replace HROW := Lib.hid (HROW.out.next hb)
                    clear hb
                    clear a0 a1 a2 a3 a4 a5 a6 a7 a8 a9; obtain ⟨a0, a1, a2, a3, a4, a5, a6, a7, a8, a9⟩ := HT.out.below HB.out hXl
                    generalize (o == 37) = b5 at *
                    obtain ⟨LN, hLN⟩ : ∃ LN, LN = putL b5 0 LL4 := ⟨_, rfl⟩
                    have HLN := Lib.hid hLN
                    rw [← hLN] at HRR
                    clear hLN
                    obtain ⟨wd, hwd⟩ : ∃ wd, wd = wc := ⟨_, rfl⟩
                    subst hwd
                    go_upto_if 90 with (fail)
                    go_cut [4] (fun u wx => Row LN u wx ∧ Below wd.heap.size wd wx)
                    case first =>
                      cases b5
                      · go_wp2
                        go_meet
                        exact ⟨by rw [HLN.out]; exact HROW.out, Below.refl _ _⟩
                      · go_wp2_with (go_at_call 41; ((with_reducible refine (with_row _ HROW.out (by have := HLEN.out; omega)).mono ?_); rintro e w' ⟨u, rfl, hrow, hb⟩))
                        go_meet
                        exact ⟨by rw [HLN.out]; exact hrow, hb⟩
                    case rest =>
                      obtain ⟨hrow, hb⟩ := hcut
                      replace HB := Lib.hid (after HB.out hb)
                      replace HROW := Lib.hid hrow
                      replace HLEN : Hid (LN.length ≤ 5) := Lib.hid (by rw [HLN.out]; have := putL_len b5 0 (LL4); have := HLEN.out; omega)
                      clear hb hrow HLN
                      clear a0 a1 a2 a3 a4 a5 a6 a7 a8 a9; obtain ⟨a0, a1, a2, a3, a4, a5, a6, a7, a8, a9⟩ := HT.out.below HB.out hXl
                      generalize LN = LL5 at *
                      go_wp2
                      go_ret
                      obtain ⟨a', c', rfl, hs1, hn1⟩ := HROW.out
                      rw [HRR.out]
                      exact ⟨a', c', rfl, hs1, hn1, HW.out.trans (HB.out.mono HW.out.size)⟩
end Go.Proofs.YtjnmkelppjcofaaDoor
