/- line: what Make tells, plain. -/
import Derived.Test.YthejefldnpeciaaGreatDooryL
import Derived.Test.YthejefldnpeciaaGreatDooryH
import Derived.Test.YthejefldnpeciaaGreatDooryI
namespace Go.Proofs.YthejefldnpeciaaGreatDoor
set_option linter.unusedVariables false
set_option linter.unusedSimpArgs false
open Go.ChangeShapes Go.WideShapes Go.Deep Go.RowKit

def nameT (s : List UInt8) : Option (List Fm) := (bookT.find? fun q => q.1 == s).map (·.2)
def startM (f : Fm) (nm : List UInt8) : Mk := ⟨f, { inZ with op := f.op, cond := if f.op = 31 then (condM (Lib.trimPrefix nm [98, 46])).1 else 0 }, ndZ, 0, false, false⟩
def fillM (f : Fm) (nm : List UInt8) (l : List Po) : Mk := l.foldl addM (startM f nm)
def endM (f : Fm) (l : List Po) (m : Mk) : Mk := if f.op = 36 ∧ l = [] then { m with i := { m.i with n := 30 } } else m
def doneM (m : Mk) : In × Nd × Int := if m.wrong = true then (inZ, ndZ, 1) else if m.great = true ∨ isI m.i = false then (inZ, ndZ, 4) else (m.i, m.nd, 0)
def makeF (f : Fm) (nm : List UInt8) (l : List Po) : In × Nd × Int := if f.op = 0 then (inZ, ndZ, 1) else doneM (endM f l (fillM f nm l))
def makeL (nm : List UInt8) (l : List Po) : In × Nd × Int := match nameT nm with | none => (inZ, ndZ, 6) | some fs => makeF (seekF fs (kindsL l)) nm l
structure GoodPo (o : Po) : Prop where
  kind : i64ok o.kind
  reg : i64ok o.reg
  add : i64ok o.add
  v : u64ok o.v
theorem name_some {s : List UInt8} {fs : List Fm} (h : nameT s = some fs) : (s, fs) ∈ bookT := by
  unfold nameT at h
  cases hf : bookT.find? fun q => q.1 == s with
  | none => rw [hf] at h; cases h
  | some q =>
    rw [hf] at h
    have h1 := List.mem_of_find?_eq_some hf
    have h2 := List.find?_some hf
    simp only [beq_iff_eq] at h2
    simp only [Option.map_some, Option.some.injEq] at h
    rw [← h2, ← h]; exact h1
theorem name_none {s : List UInt8} (h : nameT s = none) : s ∉ bookT.map (·.1) := by
  intro hm
  obtain ⟨q, hq, e⟩ := List.mem_map.1 hm
  unfold nameT at h
  have : (bookT.find? fun q => q.1 == s).isSome = true := List.find?_isSome.2 ⟨q, hq, by simpa using e⟩
  cases hf : bookT.find? fun q => q.1 == s with
  | none => rw [hf] at this; cases this
  | some q => rw [hf] at h; cases h
theorem seek_mem (fs : List Fm) (s : List UInt8) : seekF fs s = fmZ ∨ (seekF fs s ∈ fs ∧ (seekF fs s).kinds = s) := by
  unfold seekF
  cases hf : fs.find? fun f => f.kinds == s with
  | none => exact .inl rfl
  | some f => exact .inr ⟨List.mem_of_find?_eq_some hf, by have := List.find?_some hf; simpa using this⟩
set_option maxRecDepth 100000 in
theorem forms_ok : ∀ q ∈ bookT, ∀ f ∈ q.2, f.kinds.length ≤ 4 ∧ (∀ c ∈ f.kinds, c ≠ 63) ∧ (1 ≤ f.op ∧ f.op ≤ 39) ∧ (0 ≤ f.need ∧ f.need ≤ 10) := by decide +kernel
theorem forms_few : ∀ q ∈ bookT, q.2.length ≤ 1000 := by decide +kernel
/-- What a form that is found tells of the operands. -/
theorem form_kinds {s : List UInt8} {fs : List Fm} {l : List Po} (h : nameT s = some fs) (h0 : (seekF fs (kindsL l)).op ≠ 0) :
    seekF fs (kindsL l) ∈ fs ∧ (seekF fs (kindsL l)).kinds = kindsL l ∧ l.length ≤ 4 ∧ ∀ o ∈ l, 1 ≤ o.kind ∧ o.kind ≤ 7 := by
  rcases seek_mem fs (kindsL l) with e | ⟨h1, h2⟩
  · rw [e] at h0; exact absurd rfl h0
  · obtain ⟨h3, h4, -⟩ := forms_ok _ (name_some h) _ h1
    rw [h2] at h3 h4
    refine ⟨h1, h2, by unfold kindsL at h3; simpa using h3, fun o ho => ?_⟩
    have hc := h4 (letL o.kind) (List.mem_map.2 ⟨o, ho, rfl⟩)
    by_cases hk : 0 ≤ o.kind ∧ o.kind < 8
    · by_cases hz : o.kind = 0
      · rw [hz] at hc; exact absurd (by decide) hc
      · omega
    · exact absurd (by unfold letL; rw [if_neg hk]) hc
theorem signS_bd (mi : Bool) (v : Int) (h : u64ok v) : i64B (signS mi v).1 := by
  obtain ⟨h0, h1⟩ := h
  unfold signS i64B
  split
  · split <;> simp only <;> omega
  · split <;> simp only <;> omega
theorem cond_bd (s : List UInt8) : 0 ≤ (condM s).1 ∧ (condM s).1 ≤ 13 := by
  unfold condM
  split
  · rename_i h
    have : condsT.idxOf s < condsT.length := List.idxOf_lt_length_of_mem h
    have e : condsT.length = 14 := rfl
    simp only; omega
  · simp
theorem check_i (m : Mk) (o : Po) (st : Bool) : (checkM m o st).i = m.i ∧ (checkM m o st).regs = m.regs ∧ (checkM m o st).f = m.f ∧ (checkM m o st).nd = m.nd ∧ (checkM m o st).great = m.great := by unfold checkM; split <;> exact ⟨rfl, rfl, rfl, rfl, rfl⟩
theorem signed_i (m : Mk) (mi : Bool) (v : Int) : (signedM m mi v).i = m.i ∧ (signedM m mi v).regs = m.regs ∧ (signedM m mi v).f = m.f ∧ (signedM m mi v).nd = m.nd ∧ (signedM m mi v).wrong = m.wrong := by unfold signedM; split <;> exact ⟨rfl, rfl, rfl, rfl, rfl⟩
theorem put_regs (m : Mk) (p r : Int) : (putM m p r).regs = m.regs ∧ (putM m p r).f = m.f := by
  unfold putM
  split
  · exact ⟨rfl, rfl⟩
  · split
    · exact ⟨rfl, rfl⟩
    · split
      · exact ⟨rfl, rfl⟩
      · split <;> exact ⟨rfl, rfl⟩
theorem put_in {m : Mk} {p r : Int} (h : InB m.i) (hr : i64B r) : InB (putM m p r).i := by
  unfold putM
  split
  · exact ⟨h.op, hr, h.n, h.m, h.a, h.imm, h.mask, h.shift, h.amount, h.cond⟩
  · split
    · exact ⟨h.op, h.d, hr, h.m, h.a, h.imm, h.mask, h.shift, h.amount, h.cond⟩
    · split
      · exact ⟨h.op, h.d, h.n, hr, h.a, h.imm, h.mask, h.shift, h.amount, h.cond⟩
      · split
        · exact ⟨h.op, h.d, h.n, h.m, hr, h.imm, h.mask, h.shift, h.amount, h.cond⟩
        · exact h
/-- What stands of the maker while operands are added. -/
structure GM (m : Mk) (f : Fm) (k : Nat) : Prop where
  i : InB m.i
  r0 : 0 ≤ m.regs
  r1 : m.regs ≤ k
  f : m.f = f
theorem GM.add {m : Mk} {f : Fm} {k : Nat} (h : GM m f k) {o : Po} (ho : GoodPo o) : GM (addM m o) f (k + 1) := by
  obtain ⟨hi, h0, h1, hf⟩ := h
  have hreg : i64B o.reg := ho.reg
  unfold addM
  split
  · unfold regM
    obtain ⟨c1, c2, c3, -, -⟩ := check_i { m with regs := m.regs + 1 } o (stackM m.f.op (placeM m))
    obtain ⟨p1, p2⟩ := put_regs (checkM { m with regs := m.regs + 1 } o (stackM m.f.op (placeM m))) (placeM m) o.reg
    refine ⟨put_in (by rw [c1]; exact hi) hreg, by rw [p1, c2]; simp only; omega, by rw [p1, c2]; simp only; omega, by rw [p2, c3]; exact hf⟩
  split
  · unfold numberM
    split
    · unfold immM
      obtain ⟨-, s2, s3, -, -⟩ := signed_i m o.minus o.v
      exact ⟨⟨hi.op, hi.d, hi.n, hi.m, hi.a, signS_bd _ _ ho.v, hi.mask, hi.shift, hi.amount, hi.cond⟩, by simp only [s2]; exact h0, by simp only [s2]; omega, by simp only [s3]; exact hf⟩
    · split
      · exact ⟨⟨hi.op, hi.d, hi.n, hi.m, hi.a, hi.imm, by simp only; rw [IntKind.wrap_u64]; omega, hi.shift, hi.amount, hi.cond⟩, h0, by simp only; omega, hf⟩
      · exact ⟨⟨hi.op, hi.d, hi.n, hi.m, hi.a, hi.imm, ho.v, hi.shift, hi.amount, hi.cond⟩, h0, by simp only; omega, hf⟩
  split
  · unfold symbolM
    split
    · exact ⟨hi, h0, by simp only [lackM]; omega, hf⟩
    · exact ⟨⟨hi.op, hi.d, hi.n, hi.m, hi.a, hi.imm, hi.mask, hi.shift, hi.amount, by have := cond_bd o.sym; unfold i64B; simp only; omega⟩, h0, by simp only; omega, hf⟩
  split
  · unfold memoryM
    obtain ⟨c1, c2, c3, -, -⟩ := check_i m o true
    have hi2 : InB { (checkM m o true).i with n := o.reg } := by
      rw [c1]; exact ⟨hi.op, hi.d, hreg, hi.m, hi.a, hi.imm, hi.mask, hi.shift, hi.amount, hi.cond⟩
    simp only
    split
    · exact ⟨hi2, by simp only [lackM, c2]; exact h0, by simp only [lackM, c2]; omega, by simp only [lackM, c3]; exact hf⟩
    · unfold immM
      obtain ⟨-, s2, s3, -, -⟩ := signed_i { checkM m o true with i := { (checkM m o true).i with n := o.reg } } o.minus o.v
      exact ⟨⟨hi2.op, hi2.d, hi2.n, hi2.m, hi2.a, signS_bd _ _ ho.v, hi2.mask, hi2.shift, hi2.amount, hi2.cond⟩, by show 0 ≤ (signedM _ _ _).regs; rw [s2.trans c2]; exact h0, by show (signedM _ _ _).regs ≤ _; rw [s2.trans c2]; omega, by show (signedM _ _ _).f = _; rw [s3.trans c3]; exact hf⟩
  split
  · exact ⟨hi, h0, by simp only [poolM]; omega, hf⟩
  split
  · exact ⟨hi, h0, by simp only [lackM]; omega, hf⟩
  split
  · unfold shiftM
    obtain ⟨-, s2, s3, -, -⟩ := signed_i m false o.v
    simp only
    split
    · exact ⟨⟨hi.op, hi.d, hi.n, hi.m, hi.a, hi.imm, hi.mask, hreg, signS_bd _ _ ho.v, hi.cond⟩, by simp only [s2]; exact h0, by simp only [s2]; omega, by simp only [s3]; exact hf⟩
    · split
      · exact ⟨⟨hi.op, hi.d, hi.n, hi.m, hi.a, hi.imm, hi.mask, hi.shift, signS_bd _ _ ho.v, hi.cond⟩, by simp only [s2]; exact h0, by simp only [s2]; omega, by simp only [s3]; exact hf⟩
      · exact ⟨⟨hi.op, hi.d, hi.n, hi.m, hi.a, hi.imm, hi.mask, hi.shift, signS_bd _ _ ho.v, hi.cond⟩, by simp only [s2]; exact h0, by simp only [s2]; omega, by simp only [s3]; exact hf⟩
  · exact ⟨hi, h0, by omega, hf⟩
theorem GM.start (f : Fm) (nm : List UInt8) (hf : 1 ≤ f.op ∧ f.op ≤ 39) : GM (startM f nm) f 0 := by
  refine ⟨⟨?_, ?_, ?_, ?_, ?_, ?_, ?_, ?_, ?_, ?_⟩, by simp [startM], by simp [startM], rfl⟩ <;> simp only [startM, i64B] <;> try omega
  split
  · have := cond_bd (Lib.trimPrefix nm [98, 46]); omega
  · omega
theorem GM.fold {m : Mk} {f : Fm} : ∀ (l : List Po) (k : Nat), GM m f k → (∀ o ∈ l, GoodPo o) → GM (l.foldl addM m) f (k + l.length)
  | [], k, h, _ => h
  | o :: l, k, h, ho => by
    have := GM.fold (m := addM m o) l (k + 1) (h.add (ho o List.mem_cons_self)) (fun x hx => ho x (List.mem_cons_of_mem _ hx))
    rw [show k + (o :: l).length = k + 1 + l.length by simp; omega]
    exact this
theorem fold_take {l : List Po} {k : Nat} {o : Po} (h : l[k]? = some o) (m : Mk) : (l.take (k + 1)).foldl addM m = addM ((l.take k).foldl addM m) o := by
  rw [List.take_add_one, h]; simp
end Go.Proofs.YthejefldnpeciaaGreatDoor
