/- operand: operand's two contracts. -/
import Derived.Test.YtngoipcjipbelaaDoorOO
namespace Go.Proofs.YtngoipcjipbelaaDoor
set_option linter.unusedVariables false
set_option linter.unusedSimpArgs false
open Go.ChangeShapes Go.WideShapes Go.Deep Go.RowKit

theorem sh_no {t : Ti} (h : isSh t = false) : (t.kind == 1) = false ∨ (t.kind == 1) = true ∧ shiftL t.text < 0 := by
  unfold isSh at h
  cases c : (t.kind == 1) with
  | false => exact .inl rfl
  | true => rw [c] at h; exact .inr ⟨rfl, by simpa using h⟩
theorem sh_yes {t : Ti} (h : isSh t = true) : (t.kind == 1) = true ∧ 0 ≤ shiftL t.text := by
  unfold isSh at h
  rw [Bool.and_eq_true] at h
  exact ⟨h.1, by simpa using h.2⟩
theorem one_cons {α : Type} {q : Ti → Option (α × Bool)} {l r : List Ti} {a : α} {g : Bool} (h : oneP q l = some (a, r, g)) : l = nextT l :: r := by
  obtain ⟨t, rfl, -⟩ := one_some h; rfl
theorem b2 {a : Bool} (h : ¬ a = true) : a = false := by simpa using h
set_option maxHeartbeats 1000000 in
theorem oper_ok {w : World} {p : Nat} {l r : List Ti} {g g' : Bool} {o : Po} (h : RR w p l g) (hd : operP l = some (o, r, g')) :
    Calls Tryd.prog 52 #[.pointer (some ⟨p, 0, none⟩)] w (Did (poV o) p r (g || g') w) := by
  unfold operP ifP at hd
  by_cases c1 : isSh (nextT l) = true
  · rw [if_pos c1] at hd
    obtain ⟨k, r1, g1, g2, e1, hd2, rfl⟩ := bind_some hd
    obtain ⟨m, r2, g3, g4, e2, hd3, rfl⟩ := bind_some hd2
    obtain ⟨v, r3, g5, g6, e3, hd4, rfl⟩ := bind_some hd3
    obtain ⟨rfl, rfl, rfl⟩ := pure_some hd4
    have hl := one_cons e1
    obtain ⟨t, rfl, e⟩ := one_some e1
    cases e
    rw [show (g || (false || (g3 || (g5 || false)))) = ((g || g3) || g5) by cases g <;> cases g3 <;> cases g5 <;> rfl]
    exact op_shift_ok h rfl rfl (sh_yes c1) e2 e3
  rw [if_neg c1] at hd
  have hc := sh_no (b2 c1)
  by_cases c2 : isRg (nextT l) = true
  · rw [if_pos c2] at hd
    obtain ⟨⟨rn, rs⟩, r1, g1, g2, e1, hd2, rfl⟩ := bind_some hd
    obtain ⟨rfl, rfl, rfl⟩ := pure_some hd2
    rw [Bool.or_false]
    exact op_reg h rfl hc c2 e1
  rw [if_neg c2] at hd
  replace c2 := b2 c2
  by_cases c3 : isSg [91] (nextT l) = true
  · rw [if_pos c3] at hd
    obtain ⟨x, r1, g1, g2, e1, hd2, rfl⟩ := bind_some hd
    obtain ⟨t, r0, rfl, hs⟩ := sg_cons c3
    obtain ⟨rfl, rfl⟩ := want_sg hs e1
    rw [Bool.false_or]
    exact op_mem_ok h rfl hc c2 rfl hs hd2
  rw [if_neg c3] at hd
  replace c3 := b2 c3
  by_cases c4 : isSg [61] (nextT l) = true
  · rw [if_pos c4] at hd
    obtain ⟨x, r1, g1, g2, e1, hd2, rfl⟩ := bind_some hd
    obtain ⟨o', r2, g3, g4, e2, hd3, rfl⟩ := bind_some hd2
    obtain ⟨rfl, rfl, rfl⟩ := pure_some hd3
    obtain ⟨t, r0, rfl, hs⟩ := sg_cons c4
    obtain ⟨rfl, rfl⟩ := want_sg hs e1
    rw [Bool.false_or, Bool.or_false]
    rcases expr_shape e2 with ⟨s, a, rfl⟩ | ⟨m, v, rfl⟩
    · exact op_eq_sym h rfl hc c2 c3 rfl hs e2
    · exact op_eq_num h rfl hc c2 c3 rfl hs e2
  rw [if_neg c4] at hd
  replace c4 := b2 c4
  by_cases c5 : isSg [35] (nextT l) = true
  · rw [if_pos c5] at hd
    obtain ⟨x, r1, g1, g2, e1, hd2, rfl⟩ := bind_some hd
    obtain ⟨t, r0, rfl, hs⟩ := sg_cons c5
    obtain ⟨rfl, rfl⟩ := want_sg hs e1
    rw [Bool.false_or]
    by_cases c6 : isSg [58] (nextT r1) = true
    · rw [if_pos c6] at hd2
      obtain ⟨y, r2, g3, g4, e2, hd3, rfl⟩ := bind_some hd2
      obtain ⟨t2, r3, rfl, hs2⟩ := sg_cons c6
      obtain ⟨rfl, rfl⟩ := want_sg hs2 e2
      rw [Bool.false_or]
      exact op_hash_low_ok h rfl hc c2 c3 c4 rfl hs rfl hs2 hd3
    · rw [if_neg c6] at hd2
      obtain ⟨⟨m, v⟩, r2, g3, g4, e2, hd3, rfl⟩ := bind_some hd2
      obtain ⟨rfl, rfl, rfl⟩ := pure_some hd3
      rw [Bool.or_false]
      exact op_hash_num_ok h rfl hc c2 c3 c4 rfl hs (b2 c6) e2
  rw [if_neg c5] at hd
  replace c5 := b2 c5
  by_cases c6 : isSg [58] (nextT l) = true
  · rw [if_pos c6] at hd
    obtain ⟨x, r1, g1, g2, e1, hd2, rfl⟩ := bind_some hd
    obtain ⟨t, r0, rfl, hs⟩ := sg_cons c6
    obtain ⟨rfl, rfl⟩ := want_sg hs e1
    rw [Bool.false_or]
    exact op_low_ok h rfl hc c2 c3 c4 c5 rfl hs hd2
  rw [if_neg c6] at hd
  replace c6 := b2 c6
  rcases expr_shape hd with ⟨s, a, rfl⟩ | ⟨m, v, rfl⟩
  · exact op_expr_sym h rfl hc c2 c3 c4 c5 c6 hd
  · exact op_expr_num h rfl hc c2 c3 c4 c5 c6 hd
set_option maxHeartbeats 1000000 in
theorem oper_none {w : World} {p : Nat} {l : List Ti} {g : Bool} (h : RR w p l g) (hd : operP l = none) :
    Calls Tryd.prog 52 #[.pointer (some ⟨p, 0, none⟩)] w (Thr p w) := by
  unfold operP ifP at hd
  by_cases c1 : isSh (nextT l) = true
  · rw [if_pos c1] at hd
    have hy := sh_yes c1
    obtain ⟨t, r1, hl⟩ : ∃ t r, l = t :: r := by
      cases l with
      | nil => exact absurd c1 (by rw [show isSh (nextT []) = false from rfl]; decide)
      | cons t r => exact ⟨t, r, rfl⟩
    subst hl
    rcases bind_none hd with e1 | ⟨k, r2, g1, e1, hd2⟩
    · cases e1
    obtain ⟨t', e1', e1''⟩ := one_some e1
    cases e1'
    cases e1''
    rcases bind_none hd2 with e2 | ⟨m, r3, g3, e2, hd3⟩
    · exact absurd e2 (take_ne _ _)
    rcases bind_none hd3 with e3 | ⟨v, r4, g5, e3, hd4⟩
    · exact op_shift_no h rfl rfl hy e2 e3
    · cases hd4
  rw [if_neg c1] at hd
  have hc := sh_no (b2 c1)
  by_cases c2 : isRg (nextT l) = true
  · rw [if_pos c2] at hd
    rcases bind_none hd with e1 | ⟨⟨rn, rs⟩, r1, g1, e1, hd2⟩
    · exfalso
      rcases one_none e1 with rfl | ⟨t, r, rfl, e⟩
      · exact absurd c2 (by rw [show isRg (nextT []) = false from rfl]; decide)
      · rw [if_pos (show isRg t = true from c2)] at e; cases e
    · cases hd2
  rw [if_neg c2] at hd
  replace c2 := b2 c2
  by_cases c3 : isSg [91] (nextT l) = true
  · rw [if_pos c3] at hd
    obtain ⟨t, r0, rfl, hs⟩ := sg_cons c3
    rcases bind_none hd with e1 | ⟨x, r1, g1, e1, hd2⟩
    · exact absurd e1 (want_sg_ne hs)
    obtain ⟨rfl, rfl⟩ := want_sg hs e1
    exact op_mem_no h rfl hc c2 rfl hs hd2
  rw [if_neg c3] at hd
  replace c3 := b2 c3
  by_cases c4 : isSg [61] (nextT l) = true
  · rw [if_pos c4] at hd
    obtain ⟨t, r0, rfl, hs⟩ := sg_cons c4
    rcases bind_none hd with e1 | ⟨x, r1, g1, e1, hd2⟩
    · exact absurd e1 (want_sg_ne hs)
    obtain ⟨rfl, rfl⟩ := want_sg hs e1
    rcases bind_none hd2 with e2 | ⟨o', r2, g3, e2, hd3⟩
    · exact op_eq_no h rfl hc c2 c3 rfl hs e2
    · cases hd3
  rw [if_neg c4] at hd
  replace c4 := b2 c4
  by_cases c5 : isSg [35] (nextT l) = true
  · rw [if_pos c5] at hd
    obtain ⟨t, r0, rfl, hs⟩ := sg_cons c5
    rcases bind_none hd with e1 | ⟨x, r1, g1, e1, hd2⟩
    · exact absurd e1 (want_sg_ne hs)
    obtain ⟨rfl, rfl⟩ := want_sg hs e1
    by_cases c6 : isSg [58] (nextT r1) = true
    · rw [if_pos c6] at hd2
      obtain ⟨t2, r3, rfl, hs2⟩ := sg_cons c6
      rcases bind_none hd2 with e2 | ⟨y, r2, g3, e2, hd3⟩
      · exact absurd e2 (want_sg_ne hs2)
      obtain ⟨rfl, rfl⟩ := want_sg hs2 e2
      exact op_hash_low_no h rfl hc c2 c3 c4 rfl hs rfl hs2 hd3
    · rw [if_neg c6] at hd2
      rcases bind_none hd2 with e2 | ⟨⟨m, v⟩, r2, g3, e2, hd3⟩
      · exact op_hash_num_no h rfl hc c2 c3 c4 rfl hs (b2 c6) e2
      · cases hd3
  rw [if_neg c5] at hd
  replace c5 := b2 c5
  by_cases c6 : isSg [58] (nextT l) = true
  · rw [if_pos c6] at hd
    obtain ⟨t, r0, rfl, hs⟩ := sg_cons c6
    rcases bind_none hd with e1 | ⟨x, r1, g1, e1, hd2⟩
    · exact absurd e1 (want_sg_ne hs)
    obtain ⟨rfl, rfl⟩ := want_sg hs e1
    exact op_low_no h rfl hc c2 c3 c4 c5 rfl hs hd2
  rw [if_neg c6] at hd
  exact op_expr_no h rfl hc c2 c3 c4 c5 (b2 c6) hd
end Go.Proofs.YtngoipcjipbelaaDoor
