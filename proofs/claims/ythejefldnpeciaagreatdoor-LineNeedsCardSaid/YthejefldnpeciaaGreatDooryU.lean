/- line's laws: what is needed, plain; rows of operands as an argument; short. -/
import Derived.Test.YthejefldnpeciaaGreatDooryS
import Derived.Lib.SmallJoins
import Derived.OpenShut
import Derived.WideShapes
import Derived.ChangeSame
namespace Go.Proofs.YthejefldnpeciaaGreatDoor
set_option linter.unusedVariables false
set_option linter.unusedSimpArgs false
open Go.ChangeShapes Go.WideShapes Go.Deep Go.RowKit

def symB (o : Po) : Bool := o.kind == 3 || o.kind == 5 || o.kind == 6 || (o.kind == 4 && !o.sym.isEmpty)
def formB (f : Fm) : Bool :=
  if f.op = 39 then f.kinds == [114, 114, 114, 115] else
    match f.kinds.getLast? with
    | none => true
    | some c => if c ∈ ([115, 61, 108, 109] : List UInt8) then f.kinds.dropLast.all (· == 114) && decide (0 < f.need) else f.kinds.all (fun c => c == 114 || c == 110 || c == 104)
theorem forms_B : ∀ q ∈ bookT, ∀ f ∈ q.2, formB f = true := by decide +kernel
theorem let_of {k : Int} (h : 1 ≤ k ∧ k ≤ 7) : (letL k = 114 ↔ k = 1) ∧ (letL k = 110 ↔ k = 2) ∧ (letL k = 115 ↔ k = 3) ∧ (letL k = 109 ↔ k = 4) ∧ (letL k = 61 ↔ k = 5) ∧ (letL k = 108 ↔ k = 6) ∧ (letL k = 104 ↔ k = 7) := by
  have hc : k = 1 ∨ k = 2 ∨ k = 3 ∨ k = 4 ∨ k = 5 ∨ k = 6 ∨ k = 7 := by omega
  rcases hc with rfl | rfl | rfl | rfl | rfl | rfl | rfl <;> decide
/-- What registers, numbers and shifts leave. -/
theorem reg_keeps (m : Mk) (o : Po) (h : o.kind = 1) : (addM m o).nd = m.nd ∧ (addM m o).i.imm = m.i.imm ∧ (addM m o).f = m.f ∧ (addM m o).i.op = m.i.op := by
  unfold addM; rw [if_pos h]; unfold regM
  obtain ⟨c1, c2, c3, c4, -⟩ := check_i { m with regs := m.regs + 1 } o (stackM m.f.op (placeM m))
  generalize checkM { m with regs := m.regs + 1 } o (stackM m.f.op (placeM m)) = m1 at *
  unfold putM
  split
  · exact ⟨c4, by simp only; rw [c1], c3, by simp only; rw [c1]⟩
  · split
    · exact ⟨c4, by simp only; rw [c1], c3, by simp only; rw [c1]⟩
    · split
      · exact ⟨c4, by simp only; rw [c1], c3, by simp only; rw [c1]⟩
      · split
        · exact ⟨c4, by simp only; rw [c1], c3, by simp only; rw [c1]⟩
        · exact ⟨c4, by rw [c1], c3, by rw [c1]⟩
theorem num_keeps (m : Mk) (o : Po) (h : o.kind = 2) : (addM m o).nd = m.nd ∧ (addM m o).f = m.f := by
  unfold addM; rw [if_neg (by omega), if_pos h]; unfold numberM
  split
  · unfold immM
    obtain ⟨s1, s2, s3, s4, s5⟩ := signed_i m o.minus o.v
    exact ⟨s4, s3⟩
  · split <;> exact ⟨rfl, rfl⟩
theorem shift_keeps (m : Mk) (o : Po) (h : o.kind = 7) : (addM m o).nd = m.nd ∧ (addM m o).f = m.f := by
  unfold addM; rw [if_neg (by omega), if_neg (by omega), if_neg (by omega), if_neg (by omega), if_neg (by omega), if_neg (by omega), if_pos h]; unfold shiftM
  obtain ⟨s1, s2, s3, s4, s5⟩ := signed_i m false o.v
  simp only
  split
  · exact ⟨s4, s3⟩
  · split <;> exact ⟨s4, s3⟩
theorem regs_keep : ∀ (l : List Po) (m : Mk), (∀ o ∈ l, o.kind = 1) → (l.foldl addM m).nd = m.nd ∧ (l.foldl addM m).i.imm = m.i.imm ∧ (l.foldl addM m).f = m.f
  | [], m, _ => ⟨rfl, rfl, rfl⟩
  | o :: l, m, h => by
    obtain ⟨a1, a2, a3⟩ := regs_keep l (addM m o) (fun x hx => h x (List.mem_cons_of_mem _ hx))
    obtain ⟨b1, b2, b3, -⟩ := reg_keeps m o (h o List.mem_cons_self)
    exact ⟨a1.trans b1, a2.trans b2, a3.trans b3⟩
theorem plain_keep : ∀ (l : List Po) (m : Mk), (∀ o ∈ l, o.kind = 1 ∨ o.kind = 2 ∨ o.kind = 7) → (l.foldl addM m).nd = m.nd
  | [], m, _ => rfl
  | o :: l, m, h => by
    have a1 := plain_keep l (addM m o) (fun x hx => h x (List.mem_cons_of_mem _ hx))
    rcases h o List.mem_cons_self with e | e | e
    · exact a1.trans (reg_keeps m o e).1
    · exact a1.trans (num_keeps m o e).1
    · exact a1.trans (shift_keeps m o e).1
theorem done_ok {m : Mk} {i : In} {nd : Nd} (h : doneM m = (i, nd, 0)) : m.i = i ∧ m.nd = nd ∧ isI m.i = true := by
  unfold doneM at h
  split at h
  · cases h
  · split at h
    · cases h
    · rename_i h2
      injection h with h3 h4
      injection h4 with h4 h5
      refine ⟨h3, h4, ?_⟩
      cases hi : isI m.i with
      | true => rfl
      | false => exact absurd (.inr hi) h2
theorem end_nd (f : Fm) (l : List Po) (m : Mk) : (endM f l m).nd = m.nd ∧ (endM f l m).i.imm = m.i.imm ∧ (endM f l m).i.op = m.i.op := by unfold endM; split <;> exact ⟨rfl, rfl, rfl⟩
theorem add_op (m : Mk) (o : Po) : (addM m o).i.op = m.i.op := by
  unfold addM
  split
  · rename_i h
    have := (reg_keeps m o h).2.2.2
    unfold addM at this; rwa [if_pos h] at this
  split
  · unfold numberM; split
    · rfl
    · split <;> rfl
  split
  · unfold symbolM; split <;> rfl
  split
  · unfold memoryM
    obtain ⟨c1, -, -, -, -⟩ := check_i m o true
    simp only
    split
    · show (checkM m o true).i.op = _; rw [c1]
    · show (checkM m o true).i.op = _; rw [c1]
  split
  · rfl
  split
  · rfl
  split
  · unfold shiftM
    obtain ⟨s1, -, -, -, -⟩ := signed_i m false o.v
    simp only
    split
    · rfl
    · split <;> rfl
  · rfl
theorem fold_op : ∀ (l : List Po) (m : Mk), (l.foldl addM m).i.op = m.i.op
  | [], m => rfl
  | o :: l, m => (fold_op l (addM m o)).trans (add_op m o)
/-- What an instruction that is made needs. -/
theorem needs_ok {nm : List UInt8} {L : List Po} {i : In} {nd : Nd} (h : makeL nm L = (i, nd, 0)) :
    (i.op = 39 → nd = ndZ) ∧ (L = [] → nd = ndZ) ∧ (∀ (last : Po), i.op ≠ 39 → L.getLast? = some last → (L.any symB = true → 0 < nd.kind ∧ nd.sym = last.sym ∧ nd.add = last.add ∧ i.imm = 0) ∧ (L.any symB = false → nd = ndZ)) := by
  unfold makeL at h
  cases hn : nameT nm with
  | none => rw [hn] at h; cases h
  | some fs =>
    rw [hn] at h
    simp only [] at h
    unfold makeF at h
    split at h
    · cases h
    rename_i h0
    obtain ⟨hf1, hf2, hf3, hf4⟩ := form_kinds hn h0
    have hB := forms_B _ (name_some hn) _ hf1
    generalize seekF fs (kindsL L) = f at *
    obtain ⟨d1, d2, -⟩ := done_ok h
    obtain ⟨e1, e2, e3⟩ := end_nd f L (fillM f nm L)
    have hop : i.op = f.op := by rw [← d1, e3]; exact fold_op L _
    have hnd : nd = (fillM f nm L).nd := by rw [← d2, e1]
    have himm : i.imm = (fillM f nm L).i.imm := by rw [← d1, e2]
    have hf0 : (fillM f nm L).nd = (L.foldl addM (startM f nm)).nd := rfl
    unfold formB at hB
    by_cases h39 : f.op = 39
    · rw [if_pos h39] at hB
      have hk : kindsL L = [114, 114, 114, 115] := by rw [← hf2]; simpa using hB
      have hz : nd = ndZ := by
        rw [hnd]
        obtain ⟨a, b, c, d, rfl⟩ : ∃ a b c d, L = [a, b, c, d] := by
          have hlen : L.length = 4 := by have := congrArg List.length hk; simpa [kindsL] using this
          match L, hlen with
          | [a, b, c, d], _ => exact ⟨a, b, c, d, rfl⟩
        simp only [kindsL, List.map_cons, List.map_nil, List.cons.injEq, and_true] at hk
        obtain ⟨k1, k2, k3, k4⟩ := hk
        have a1 := ((let_of (hf4 a (by simp))).1).1 k1
        have b1 := ((let_of (hf4 b (by simp))).1).1 k2
        have c1 := ((let_of (hf4 c (by simp))).1).1 k3
        have dd := ((let_of (hf4 d (by simp))).2.2.1).1 k4
        obtain ⟨q1, q2, q3⟩ := regs_keep [a, b, c] (startM f nm) (by simp [a1, b1, c1])
        show (addM ([a, b, c].foldl addM (startM f nm)) d).nd = _
        generalize [a, b, c].foldl addM (startM f nm) = m at *
        unfold addM; rw [if_neg (by omega), if_neg (by omega), if_pos dd]
        unfold symbolM; rw [if_neg (by rw [q3]; show ¬ f.op ≠ 39; simp [h39])]
        exact q1
      refine ⟨fun _ => hz, fun _ => hz, fun last h _ => absurd (hop.trans h39) h⟩
    · rw [if_neg h39] at hB
      refine ⟨fun h => absurd (hop.symm.trans h) h39, fun hL => by rw [hnd, hL]; rfl, fun last _ hl => ?_⟩
      obtain ⟨init, rfl⟩ : ∃ init, L = init ++ [last] := by
        obtain ⟨ys, hy⟩ := List.getLast?_eq_some_iff.1 hl
        exact ⟨ys, hy⟩
      have hkl : kindsL (init ++ [last]) = kindsL init ++ [letL last.kind] := by unfold kindsL; simp
      rw [hf2, hkl] at hB
      simp only [List.getLast?_append, List.getLast?_singleton, Option.some_or, List.dropLast_concat] at hB
      have hlk := hf4 last (by simp)
      obtain ⟨t1, t2, t3, t4, t5, t6, t7⟩ := let_of hlk
      have hfold : fillM f nm (init ++ [last]) = addM (init.foldl addM (startM f nm)) last := by unfold fillM; rw [List.foldl_append]; rfl
      by_cases hc : letL last.kind ∈ ([115, 61, 108, 109] : List UInt8)
      · rw [if_pos hc] at hB
        simp only [Bool.and_eq_true, decide_eq_true_eq, List.all_eq_true] at hB
        obtain ⟨hreg, hneed⟩ := hB
        have hr : ∀ o ∈ init, o.kind = 1 := fun o ho => ((let_of (hf4 o (List.mem_append_left _ ho))).1).1 (by
          have := hreg (letL o.kind) (List.mem_map.2 ⟨o, ho, rfl⟩)
          simpa using this)
        obtain ⟨q1, q2, q3⟩ := regs_keep init (startM f nm) hr
        have hsi : init.any symB = false := by
          rw [List.any_eq_false]; intro o ho; unfold symB; rw [hr o ho]; simp
        rw [List.any_append, hsi, Bool.false_or, List.any_cons, List.any_nil, Bool.or_false]
        rw [hnd, himm, hfold]
        generalize init.foldl addM (startM f nm) = m at *
        have q1' : m.nd = ndZ := q1
        have q2' : m.i.imm = 0 := q2
        have q3' : m.f = f := q3
        simp only [List.mem_cons, List.not_mem_nil, or_false] at hc
        rcases hc with hc | hc | hc | hc
        · have hk := t3.1 hc
          have hs : symB last = true := by unfold symB; rw [hk]; rfl
          have ha : addM m last = lackM m last := by unfold addM; rw [if_neg (by omega), if_neg (by omega), if_pos hk]; unfold symbolM; rw [if_pos (by rw [q3']; exact h39)]
          rw [ha, hs]
          exact ⟨fun _ => ⟨by show 0 < m.f.need; rw [q3']; exact hneed, rfl, rfl, q2'⟩, fun h => (by cases h)⟩
        · have hk := t5.1 hc
          have hs : symB last = true := by unfold symB; rw [hk]; rfl
          have ha : addM m last = poolM m last := by unfold addM; rw [if_neg (by omega), if_neg (by omega), if_neg (by omega), if_neg (by omega), if_pos hk]
          rw [ha, hs]
          exact ⟨fun _ => ⟨by show 0 < m.f.need; rw [q3']; exact hneed, rfl, rfl, q2'⟩, fun h => (by cases h)⟩
        · have hk := t6.1 hc
          have hs : symB last = true := by unfold symB; rw [hk]; rfl
          have ha : addM m last = lackM m last := by unfold addM; rw [if_neg (by omega), if_neg (by omega), if_neg (by omega), if_neg (by omega), if_neg (by omega), if_pos hk]
          rw [ha, hs]
          exact ⟨fun _ => ⟨by show 0 < m.f.need; rw [q3']; exact hneed, rfl, rfl, q2'⟩, fun h => (by cases h)⟩
        · have hk := t4.1 hc
          have ha : addM m last = memoryM m last := by unfold addM; rw [if_neg (by omega), if_neg (by omega), if_neg (by omega), if_pos hk]
          obtain ⟨c1, c2, c3, c4, c5⟩ := check_i m last true
          rw [ha]
          unfold memoryM
          simp only
          cases hsy : last.sym with
          | nil =>
            have hs : symB last = false := by unfold symB; rw [hk, hsy]; rfl
            rw [hs, if_neg (by simp)]
            refine ⟨fun h => (by cases h), fun _ => ?_⟩
            unfold immM
            obtain ⟨s1, s2, s3, s4, s5⟩ := signed_i { checkM m last true with i := { (checkM m last true).i with n := last.reg } } last.minus last.v
            show (signedM _ _ _).nd = _
            rw [s4]; show (checkM m last true).nd = _; rw [c4, q1']
          | cons x t =>
            have hs : symB last = true := by unfold symB; rw [hk, hsy]; rfl
            rw [hs, if_pos (by simp)]
            refine ⟨fun _ => ⟨?_, ?_, rfl, ?_⟩, fun h => (by cases h)⟩
            · show 0 < (checkM m last true).f.need; rw [c3, q3']; exact hneed
            · show last.sym = _; rw [hsy]
            · show (checkM m last true).i.imm = 0; rw [c1]; exact q2'
      · rw [if_neg hc] at hB
        simp only [List.all_append, List.all_cons, List.all_nil, Bool.and_true, Bool.and_eq_true, List.all_eq_true, Bool.or_eq_true, beq_iff_eq] at hB
        have hall : ∀ o ∈ init ++ [last], o.kind = 1 ∨ o.kind = 2 ∨ o.kind = 7 := by
          intro o ho
          have hq := let_of (hf4 o ho)
          have : (letL o.kind = 114 ∨ letL o.kind = 110) ∨ letL o.kind = 104 := by
            rcases List.mem_append.1 ho with h | h
            · exact hB.1 (letL o.kind) (List.mem_map.2 ⟨o, h, rfl⟩)
            · rw [List.mem_singleton.1 h]; exact hB.2
          rcases this with (h | h) | h
          · exact .inl (hq.1.1 h)
          · exact .inr (.inl (hq.2.1.1 h))
          · exact .inr (.inr (hq.2.2.2.2.2.2.1 h))
        have hs : (init ++ [last]).any symB = false := by
          rw [List.any_eq_false]; intro o ho; unfold symB
          rcases hall o ho with e | e | e <;> rw [e] <;> simp
        rw [hs]
        refine ⟨fun h => (by cases h), fun _ => ?_⟩
        rw [hnd]
        exact plain_keep _ (startM f nm) hall
end Go.Proofs.YthejefldnpeciaaGreatDoor
