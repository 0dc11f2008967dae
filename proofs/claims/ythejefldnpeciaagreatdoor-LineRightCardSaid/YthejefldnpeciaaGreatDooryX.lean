/- line's laws: an instruction that is made is right, plain. -/
import Derived.Test.YthejefldnpeciaaGreatDooryS
import Derived.Test.YthejefldnpeciaaGreatDooryY
namespace Go.Proofs.YthejefldnpeciaaGreatDoor
set_option linter.unusedVariables false
set_option linter.unusedSimpArgs false
open Go.ChangeShapes Go.WideShapes Go.Deep Go.RowKit

def nameB (nm : List UInt8) (op : Int) : Bool := decide ((nameI op).2 = 0) && (decide ((nameI op).1.data.toList = nm) || (decide ((nameI op).1.data.toList = [98]) && decide (op = 31) && decide (nm.length = 4)))
def regB (f : Fm) : Bool :=
  if shapeI f.op = 13 then decide (f.kinds = [114]) || decide (f.kinds = [])
  else decide (f.kinds = [114, 109]) || (f.kinds.all fun c => c != 109)
theorem forms_R : ∀ q ∈ bookT, ∀ f ∈ q.2, nameB q.1 f.op = true ∧ regB f = true := by decide +kernel
def fld (i : In) : Nat → Int
  | 0 => i.d
  | 1 => i.n
  | 2 => i.m
  | _ => i.a
def ownL (i : In) : List Int := [0, i.d, i.n, i.m, i.a]
theorem fld_own (i : In) (j : Nat) : fld i j ∈ ownL i := by
  match j with
  | 0 => simp [fld, ownL]
  | 1 => simp [fld, ownL]
  | 2 => simp [fld, ownL]
  | (k + 3) => simp [fld, ownL]
theorem let_of {k : Int} (h : 1 ≤ k ∧ k ≤ 7) : (letL k = 114 ↔ k = 1) ∧ (letL k = 109 ↔ k = 4) := by
  have hc : k = 1 ∨ k = 2 ∨ k = 3 ∨ k = 4 ∨ k = 5 ∨ k = 6 ∨ k = 7 := by omega
  rcases hc with rfl | rfl | rfl | rfl | rfl | rfl | rfl <;> decide
/-- The registers of the maker's instruction, and how many are told. -/
structure RgE (m m' : Mk) : Prop where
  d : m'.i.d = m.i.d
  n : m'.i.n = m.i.n
  q : m'.i.m = m.i.m
  a : m'.i.a = m.i.a
  r : m'.regs = m.regs
  f : m'.f = m.f
theorem keep_regs (m : Mk) (o : Po) (h1 : o.kind ≠ 1) (h4 : o.kind ≠ 4) : RgE m (addM m o) := by
  unfold addM
  rw [if_neg h1]
  split
  · unfold numberM
    split
    · unfold immM
      obtain ⟨s1, s2, s3, s4, s5⟩ := signed_i m o.minus o.v
      exact ⟨rfl, rfl, rfl, rfl, s2, s3⟩
    · split <;> exact ⟨rfl, rfl, rfl, rfl, rfl, rfl⟩
  split
  · unfold symbolM; split <;> exact ⟨rfl, rfl, rfl, rfl, rfl, rfl⟩
  split
  · exact ⟨rfl, rfl, rfl, rfl, rfl, rfl⟩
  split
  · exact ⟨rfl, rfl, rfl, rfl, rfl, rfl⟩
  split
  · unfold shiftM
    obtain ⟨s1, s2, s3, s4, s5⟩ := signed_i m false o.v
    simp only
    split
    · exact ⟨rfl, rfl, rfl, rfl, s2, s3⟩
    · split <;> exact ⟨rfl, rfl, rfl, rfl, s2, s3⟩
  · exact ⟨rfl, rfl, rfl, rfl, rfl, rfl⟩
theorem put_fld (m : Mk) (p : Nat) (hp : p ≤ 3) (r : Int) : fld (putM m (p : Int) r).i p = r ∧ ∀ j, j < p → fld (putM m (p : Int) r).i j = fld m.i j := by
  have hc : p = 0 ∨ p = 1 ∨ p = 2 ∨ p = 3 := by omega
  rcases hc with rfl | rfl | rfl | rfl
  · exact ⟨rfl, fun j hj => by omega⟩
  · refine ⟨rfl, fun j hj => ?_⟩
    have : j = 0 := by omega
    subst this; rfl
  · refine ⟨rfl, fun j hj => ?_⟩
    have : j = 0 ∨ j = 1 := by omega
    rcases this with rfl | rfl <;> rfl
  · refine ⟨rfl, fun j hj => ?_⟩
    have : j = 0 ∨ j = 1 ∨ j = 2 := by omega
    rcases this with rfl | rfl | rfl <;> rfl
theorem reg_fld (m : Mk) (o : Po) (h : o.kind = 1) (hs : shapeI m.f.op ≠ 13) (p : Nat) (hp : m.regs = (p : Int)) (hp3 : p ≤ 3) :
    (fld (addM m o).i p = o.reg ∧ ∀ j, j < p → fld (addM m o).i j = fld m.i j) ∧ (addM m o).regs = ((p + 1 : Nat) : Int) ∧ (addM m o).f = m.f := by
  unfold addM; rw [if_pos h]; unfold regM
  have hpl : placeM m = (p : Int) := by unfold placeM; rw [if_neg hs, hp]
  rw [hpl]
  obtain ⟨c1, c2, c3, -, -⟩ := check_i { m with regs := m.regs + 1 } o (stackM m.f.op (p : Int))
  generalize checkM { m with regs := m.regs + 1 } o (stackM m.f.op (p : Int)) = m1 at *
  obtain ⟨q1, q2⟩ := put_fld m1 p hp3 o.reg
  obtain ⟨r1, r2⟩ := put_regs m1 (p : Int) o.reg
  refine ⟨⟨q1, fun j hj => by rw [q2 j hj, c1]⟩, ?_, by rw [r2, c3]⟩
  rw [r1, c2]; simp only; rw [hp]; omega
/-- Each register among the operands is one of the instruction's. -/
theorem regs_in : ∀ (l : List Po) (m : Mk) (p : Nat), m.regs = (p : Int) → p + l.length ≤ 4 → shapeI m.f.op ≠ 13 → (∀ o ∈ l, o.kind ≠ 4) →
    (∀ j, j < p → fld (l.foldl addM m).i j = fld m.i j) ∧ ∀ o ∈ l, o.kind = 1 → ∃ j, fld (l.foldl addM m).i j = o.reg
  | [], m, p, _, _, _, _ => ⟨fun _ _ => rfl, fun o ho => by cases ho⟩
  | o :: l, m, p, hp, hl, hs, h4 => by
    have hl' : p + 1 + l.length ≤ 4 := by simp only [List.length_cons] at hl; omega
    by_cases h1 : o.kind = 1
    · obtain ⟨⟨a1, a2⟩, a3, a4⟩ := reg_fld m o h1 hs p hp (by omega)
      obtain ⟨b1, b2⟩ := regs_in l (addM m o) (p + 1) a3 hl' (by rw [a4]; exact hs) (fun x hx => h4 x (List.mem_cons_of_mem _ hx))
      refine ⟨fun j hj => by rw [List.foldl_cons, b1 j (by omega), a2 j hj], fun x hx hk => ?_⟩
      rcases List.mem_cons.1 hx with rfl | hx
      · exact ⟨p, by rw [List.foldl_cons, b1 p (by omega), a1]⟩
      · exact b2 x hx hk
    · have e := keep_regs m o h1 (h4 o List.mem_cons_self)
      obtain ⟨b1, b2⟩ := regs_in l (addM m o) p (by rw [e.r]; exact hp) (by omega) (by rw [e.f]; exact hs) (fun x hx => h4 x (List.mem_cons_of_mem _ hx))
      refine ⟨fun j hj => ?_, fun x hx hk => ?_⟩
      · rw [List.foldl_cons, b1 j hj]
        match j with
        | 0 => exact e.d
        | 1 => exact e.n
        | 2 => exact e.q
        | (k + 3) => exact e.a
      · rcases List.mem_cons.1 hx with rfl | hx
        · exact absurd hk h1
        · exact b2 x hx hk
theorem done_ok {m : Mk} {i : In} {nd : Nd} (h : doneM m = (i, nd, 0)) : m.i = i ∧ m.nd = nd ∧ isI m.i = true := by
  unfold doneM at h
  split at h
  · cases h
  · split at h
    · cases h
    · rename_i h2
      injection h with h3 h4
      injection h4 with h4 h5
      refine ⟨h3, h4, ?_⟩
      cases hi : isI m.i with
      | true => rfl
      | false => exact absurd (.inr hi) h2
theorem done_no {m : Mk} {i : In} {nd : Nd} {er : Int} (h : doneM m = (i, nd, er)) (h0 : er ≠ 0) : i = inZ ∧ nd = ndZ := by
  unfold doneM at h
  split at h
  · cases h; exact ⟨rfl, rfl⟩
  · split at h
    · cases h; exact ⟨rfl, rfl⟩
    · cases h; exact absurd rfl h0
theorem make_no {nm : List UInt8} {L : List Po} {i : In} {nd : Nd} {er : Int} (h : makeL nm L = (i, nd, er)) (h0 : er ≠ 0) : i = inZ ∧ nd = ndZ := by
  unfold makeL at h
  cases hn : nameT nm with
  | none => rw [hn] at h; cases h; exact ⟨rfl, rfl⟩
  | some fs =>
    rw [hn] at h
    simp only [] at h
    unfold makeF at h
    split at h
    · cases h; exact ⟨rfl, rfl⟩
    · exact done_no h h0
theorem add_opf (m : Mk) (o : Po) : (addM m o).i.op = m.i.op ∧ (addM m o).f = m.f := by
  by_cases h1 : o.kind = 1
  · unfold addM; rw [if_pos h1]; unfold regM
    obtain ⟨c1, c2, c3, -, -⟩ := check_i { m with regs := m.regs + 1 } o (stackM m.f.op (placeM m))
    generalize checkM { m with regs := m.regs + 1 } o (stackM m.f.op (placeM m)) = m1 at *
    refine ⟨?_, by rw [(put_regs _ _ _).2, c3]⟩
    unfold putM
    split
    · simp only; rw [c1]
    · split
      · simp only; rw [c1]
      · split
        · simp only; rw [c1]
        · split
          · simp only; rw [c1]
          · rw [c1]
  · unfold addM; rw [if_neg h1]
    split
    · unfold numberM; split
      · exact ⟨rfl, (signed_i m o.minus o.v).2.2.1⟩
      · split <;> exact ⟨rfl, rfl⟩
    split
    · unfold symbolM; split <;> exact ⟨rfl, rfl⟩
    split
    · unfold memoryM
      obtain ⟨c1, -, c3, -, -⟩ := check_i m o true
      simp only
      split
      · exact ⟨by show (checkM m o true).i.op = _; rw [c1], by show (checkM m o true).f = _; exact c3⟩
      · refine ⟨by show (checkM m o true).i.op = _; rw [c1], ?_⟩
        exact (signed_i { checkM m o true with i := { (checkM m o true).i with n := o.reg } } o.minus o.v).2.2.1.trans c3
    split
    · exact ⟨rfl, rfl⟩
    split
    · exact ⟨rfl, rfl⟩
    split
    · unfold shiftM
      obtain ⟨s1, s2, s3, -, -⟩ := signed_i m false o.v
      simp only
      split
      · exact ⟨rfl, s3⟩
      · split <;> exact ⟨rfl, s3⟩
    · exact ⟨rfl, rfl⟩
theorem add_need (m : Mk) (o : Po) (h : 0 ≤ m.nd.kind ∧ m.nd.kind ≤ 10) (hf : 0 ≤ m.f.need ∧ m.f.need ≤ 10) : 0 ≤ (addM m o).nd.kind ∧ (addM m o).nd.kind ≤ 10 := by
  unfold addM
  split
  · unfold regM
    have e : (putM (checkM { m with regs := m.regs + 1 } o (stackM m.f.op (placeM m))) (placeM m) o.reg).nd = m.nd := by
      obtain ⟨-, -, -, c4, -⟩ := check_i { m with regs := m.regs + 1 } o (stackM m.f.op (placeM m))
      generalize checkM { m with regs := m.regs + 1 } o (stackM m.f.op (placeM m)) = m1 at *
      unfold putM
      split
      · exact c4
      · split
        · exact c4
        · split
          · exact c4
          · split <;> exact c4
    rw [e]; exact h
  split
  · unfold numberM; split
    · unfold immM; simp only; rw [(signed_i m o.minus o.v).2.2.2.1]; exact h
    · split <;> exact h
  split
  · unfold symbolM; split
    · exact hf
    · exact h
  split
  · unfold memoryM
    obtain ⟨c1, -, c3, c4, -⟩ := check_i m o true
    simp only
    split
    · show 0 ≤ (checkM m o true).f.need ∧ _; rw [c3]; exact hf
    · unfold immM; simp only
      rw [(signed_i { checkM m o true with i := { (checkM m o true).i with n := o.reg } } o.minus o.v).2.2.2.1]
      show 0 ≤ (checkM m o true).nd.kind ∧ _; rw [c4]; exact h
  split
  · exact hf
  split
  · exact hf
  split
  · unfold shiftM
    obtain ⟨-, -, -, s4, -⟩ := signed_i m false o.v
    simp only
    split
    · show 0 ≤ (signedM m false o.v).nd.kind ∧ _; rw [s4]; exact h
    · split
      · show 0 ≤ (signedM m false o.v).nd.kind ∧ _; rw [s4]; exact h
      · show 0 ≤ (signedM m false o.v).nd.kind ∧ _; rw [s4]; exact h
  · exact h
theorem fold_need : ∀ (l : List Po) (m : Mk), (0 ≤ m.nd.kind ∧ m.nd.kind ≤ 10) → (0 ≤ m.f.need ∧ m.f.need ≤ 10) → (0 ≤ (l.foldl addM m).nd.kind ∧ (l.foldl addM m).nd.kind ≤ 10) ∧ (l.foldl addM m).i.op = m.i.op
  | [], m, h, _ => ⟨h, rfl⟩
  | o :: l, m, h, hf => by
    have := fold_need l (addM m o) (add_need m o h hf) (by rw [(add_opf m o).2]; exact hf)
    exact ⟨this.1, this.2.trans (add_opf m o).1⟩
/-- An instruction that is made is right. -/
theorem right_ok {nm : List UInt8} {L : List Po} {i : In} {nd : Nd} (h : makeL nm L = (i, nd, 0)) :
    ((nameI i.op).2 = 0 ∧ ((nameI i.op).1.data.toList = nm ∨ ((nameI i.op).1.data.toList = [98] ∧ i.op = 31 ∧ nm.length = 4))) ∧ isI i = true ∧ (∀ o ∈ L, o.kind = 1 ∨ o.kind = 4 → o.reg ∈ ownL i) ∧ (0 ≤ nd.kind ∧ nd.kind ≤ 10) := by
  unfold makeL at h
  cases hn : nameT nm with
  | none => rw [hn] at h; cases h
  | some fs =>
    rw [hn] at h
    simp only [] at h
    unfold makeF at h
    split at h
    · cases h
    rename_i h0
    obtain ⟨hf1, hf2, hf3, hf4⟩ := form_kinds hn h0
    obtain ⟨hB1, hB2⟩ := forms_R _ (name_some hn) _ hf1
    obtain ⟨-, -, -, hB3⟩ := forms_ok _ (name_some hn) _ hf1
    generalize seekF fs (kindsL L) = f at *
    obtain ⟨d1, d2, d3⟩ := done_ok h
    have hfn := fold_need L (startM f nm) ⟨Int.le_refl 0, by show (0 : Int) ≤ 10; omega⟩ hB3
    have hop : i.op = f.op := by
      rw [← d1]
      have : (endM f L (fillM f nm L)).i.op = (fillM f nm L).i.op := by unfold endM; split <;> rfl
      rw [this]; exact hfn.2
    have hnk : nd = (fillM f nm L).nd := by
      rw [← d2]; unfold endM; split <;> rfl
    refine ⟨?_, by rw [← d1]; exact d3, ?_, by rw [hnk]; exact hfn.1⟩
    · rw [hop]
      unfold nameB at hB1
      simp only [Bool.and_eq_true, Bool.or_eq_true, decide_eq_true_eq] at hB1
      exact ⟨hB1.1, hB1.2.imp id (fun h => ⟨h.1.1, h.1.2, h.2⟩)⟩
    · intro o ho hk
      have hLne : L ≠ [] := by intro e; rw [e] at ho; cases ho
      have hi : i = (fillM f nm L).i := by rw [← d1]; unfold endM; rw [if_neg (fun h => hLne h.2)]
      unfold regB at hB2
      by_cases h13 : shapeI f.op = 13
      · rw [if_pos h13] at hB2
        simp only [Bool.or_eq_true, decide_eq_true_eq] at hB2
        rcases hB2 with hB2 | hB2
        · rw [hf2] at hB2
          obtain ⟨x, rfl⟩ : ∃ x, L = [x] := by
            have hlen : L.length = 1 := by have := congrArg List.length hB2; simpa [kindsL] using this
            match L, hlen with
            | [x], _ => exact ⟨x, rfl⟩
          have hox : o = x := by simpa using ho
          subst hox
          simp only [kindsL, List.map_cons, List.map_nil, List.cons.injEq, and_true] at hB2
          have hk1 := ((let_of (hf4 o (by simp))).1).1 hB2
          have : (fillM f nm [o]).i.n = o.reg := by
            show (addM (startM f nm) o).i.n = _
            unfold addM; rw [if_pos hk1]; unfold regM
            have hpl : placeM (startM f nm) = 1 := by unfold placeM; rw [if_pos (by exact h13)]
            rw [hpl]
            exact (put_fld _ 1 (by omega) o.reg).1
          rw [hi]
          unfold ownL; rw [this]; simp
        · rw [hf2] at hB2
          exact absurd (by simpa [kindsL] using hB2) hLne
      · rw [if_neg h13] at hB2
        simp only [Bool.or_eq_true, decide_eq_true_eq] at hB2
        rcases hB2 with hB2 | hB2
        · rw [hf2] at hB2
          obtain ⟨x, y, rfl⟩ : ∃ x y, L = [x, y] := by
            have hlen : L.length = 2 := by have := congrArg List.length hB2; simpa [kindsL] using this
            match L, hlen with
            | [x, y], _ => exact ⟨x, y, rfl⟩
          simp only [kindsL, List.map_cons, List.map_nil, List.cons.injEq, and_true] at hB2
          have hx := ((let_of (hf4 x (by simp))).1).1 hB2.1
          have hy := ((let_of (hf4 y (by simp))).2).1 hB2.2
          obtain ⟨⟨q1, -⟩, q2, q3⟩ := reg_fld (startM f nm) x hx h13 0 rfl (by omega)
          have hfi : fillM f nm [x, y] = addM (addM (startM f nm) x) y := rfl
          rw [hi, hfi]
          generalize addM (startM f nm) x = m at *
          have ha : addM m y = memoryM m y := by unfold addM; rw [if_neg (by omega), if_neg (by omega), if_neg (by omega), if_pos hy]
          obtain ⟨c1, -, -, -, -⟩ := check_i m y true
          have hd : (memoryM m y).i.d = x.reg ∧ (memoryM m y).i.n = y.reg := by
            unfold memoryM
            simp only
            have hdx : m.i.d = x.reg := q1
            split
            · exact ⟨by show (checkM m y true).i.d = _; rw [c1]; exact hdx, rfl⟩
            · exact ⟨by show (checkM m y true).i.d = _; rw [c1]; exact hdx, rfl⟩
          rw [ha]
          unfold ownL; rw [hd.1, hd.2]
          have : o = x ∨ o = y := by simpa using ho
          rcases this with rfl | rfl <;> simp
        · have h4 : ∀ x ∈ L, x.kind ≠ 4 := by
            intro x hx e
            rw [hf2] at hB2
            have := List.all_eq_true.1 hB2 (letL x.kind) (List.mem_map.2 ⟨x, hx, rfl⟩)
            rw [e] at this
            exact absurd this (by decide)
          have hk1 : o.kind = 1 := hk.resolve_right (h4 o ho)
          obtain ⟨-, q2⟩ := regs_in L (startM f nm) 0 rfl (by omega) h13 h4
          obtain ⟨j, hj⟩ := q2 o ho hk1
          rw [hi, ← hj]
          exact fld_own _ j
theorem makeL_in {nm : List UInt8} {L : List Po} {i : In} {nd : Nd} (hg : ∀ o ∈ L, GoodPo o) (h : makeL nm L = (i, nd, 0)) : InB i := by
  unfold makeL at h
  cases hn : nameT nm with
  | none => rw [hn] at h; cases h
  | some fs =>
    rw [hn] at h
    simp only [] at h
    unfold makeF at h
    split at h
    · cases h
    rename_i h0
    obtain ⟨hf1, -, -, -⟩ := form_kinds hn h0
    obtain ⟨-, -, hB3, -⟩ := forms_ok _ (name_some hn) _ hf1
    generalize seekF fs (kindsL L) = f at *
    obtain ⟨d1, -, -⟩ := done_ok h
    have hG := GM.fold L 0 (GM.start f nm hB3) hg
    have hi := hG.i
    rw [← d1]
    unfold endM
    split
    · exact ⟨hi.op, hi.d, by unfold i64B; simp only; omega, hi.m, hi.a, hi.imm, hi.mask, hi.shift, hi.amount, hi.cond⟩
    · exact hi
end Go.Proofs.YthejefldnpeciaaGreatDoor
