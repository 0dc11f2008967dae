/- line's law LineTold: an instruction as an argument; the operands that tell it; what the law calls. -/
import Derived.Test.YthejefldnpeciaaGreatDooryS
import Derived.Test.YthejefldnpeciaaGreatDooryY
import Derived.Lib.SmallJoins
import Derived.OpenShut
import Derived.WideShapes
import Derived.ChangeSame
namespace Go.Proofs.YthejefldnpeciaaGreatDoor
set_option linter.unusedVariables false
set_option linter.unusedSimpArgs false
open Go.ChangeShapes Go.WideShapes Go.Deep Go.RowKit

theorem open_one {H : Type} {encH : TypeId × Value → H} {P : Program} {W : World} {base : Nat} {spare : Nat → Bool} {held : Bool} {v : Value} {d : DataW H} {p : List MemPlace} {t : TypeId} {fs : Array Field}
    (ht : P.underlying t = some (.struct fs)) (hone : oneCellFields P fs = true) (hC : P.cellsOf t = fs.size) (hv : Value.okWide P W .any base t v) (h : DataW.Trod encH P W 0 spare held t v d p) :
    ∃ (cs : Array Value) (n : Nat), v = .agg cs ∧ cs.size = fs.size ∧ ∀ (j : Nat) (f : Field), fs[j]? = some f → ∃ (u : Value) (y : DataW H × List MemPlace), cs[j]? = some u ∧ DataW.trod encH P W 0 spare held n f.type [u] = some y := by
  obtain ⟨cs, rfl, hsz⟩ := okWide_struct ht hv
  obtain ⟨fuel, hf⟩ := h
  obtain ⟨ys, n, _, _, hlen, hyl, hfs⟩ := DataW.trod_struct ht hf
  refine ⟨cs, n, rfl, hsz.trans hC, fun j f hj => ?_⟩
  obtain ⟨ho, hk⟩ := hone_of hone j f hj
  have hjl : j < fs.size := (Array.getElem?_eq_some_iff.1 hj).1
  have hjc : j < cs.size := by rw [hsz, hC]; exact hjl
  have h1 := hfs j f hj
  rw [ho, hk] at h1
  have e1 : ((Value.cells (.agg cs)).toList.drop j).take 1 = [cs[j]] := by
    show (cs.toList.drop j).take 1 = _
    rw [List.drop_eq_getElem_cons (by simpa using hjc)]
    rfl
  rw [e1] at h1
  have hys : ys[j]? = some (ys[j]'(by omega)) := List.getElem?_eq_getElem (by omega)
  exact ⟨cs[j], ys[j]'(by omega), Array.getElem?_eq_getElem hjc, h1.trans hys⟩

theorem ten_vals {cs : Array Value} {c0 c1 c2 c3 c4 c5 c6 c7 c8 c9 : Value} (hs : cs.size = 10) (h0 : cs[0]? = some c0) (h1 : cs[1]? = some c1) (h2 : cs[2]? = some c2) (h3 : cs[3]? = some c3) (h4 : cs[4]? = some c4) (h5 : cs[5]? = some c5)
    (h6 : cs[6]? = some c6) (h7 : cs[7]? = some c7) (h8 : cs[8]? = some c8) (h9 : cs[9]? = some c9) : cs = #[c0, c1, c2, c3, c4, c5, c6, c7, c8, c9] := by
  refine Array.ext_getElem? fun j => ?_
  match j with
  | 0 => exact h0 | 1 => exact h1 | 2 => exact h2 | 3 => exact h3 | 4 => exact h4 | 5 => exact h5 | 6 => exact h6 | 7 => exact h7 | 8 => exact h8 | 9 => exact h9
  | j + 10 => rw [Array.getElem?_eq_none (by omega), Array.getElem?_eq_none (by simp)]
set_option maxRecDepth 100000 in
theorem open_Inst {H : Type} {encH : TypeId × Value → H} {W : World} {base : Nat} {v : Value} {d : DataW H} {p : List MemPlace}
    (hv : Value.okWide Tryz.prog W .any base 26 v) (h : DataW.Trod encH Tryz.prog W 0 (fun _ => true) true 26 v d p) : ∃ i : In, v = inV i ∧ InB i := by
  obtain ⟨cs, n, rfl, hs, hf⟩ := open_one Tryz.underlying26 (by kernel_rfl) (by kernel_rfl) hv h
  obtain ⟨v0, y0, c0, t0⟩ := hf 0 _ rfl
  obtain ⟨v1, y1, c1, t1⟩ := hf 1 _ rfl
  obtain ⟨v2, y2, c2, t2⟩ := hf 2 _ rfl
  obtain ⟨v3, y3, c3, t3⟩ := hf 3 _ rfl
  obtain ⟨v4, y4, c4, t4⟩ := hf 4 _ rfl
  obtain ⟨v5, y5, c5, t5⟩ := hf 5 _ rfl
  obtain ⟨v6, y6, c6, t6⟩ := hf 6 _ rfl
  obtain ⟨v7, y7, c7, t7⟩ := hf 7 _ rfl
  obtain ⟨v8, y8, c8, t8⟩ := hf 8 _ rfl
  obtain ⟨v9, y9, c9, t9⟩ := hf 9 _ rfl
  obtain ⟨x0, e0, -, w0⟩ := DataW.trod_int Tryz.underlying3 t0
  obtain ⟨x1, e1, -, w1⟩ := DataW.trod_int Tryz.underlying3 t1
  obtain ⟨x2, e2, -, w2⟩ := DataW.trod_int Tryz.underlying3 t2
  obtain ⟨x3, e3, -, w3⟩ := DataW.trod_int Tryz.underlying3 t3
  obtain ⟨x4, e4, -, w4⟩ := DataW.trod_int Tryz.underlying3 t4
  obtain ⟨x5, e5, -, w5⟩ := DataW.trod_int Tryz.underlying3 t5
  obtain ⟨x6, e6, -, w6⟩ := DataW.trod_int Tryz.underlying24 t6
  obtain ⟨x7, e7, -, w7⟩ := DataW.trod_int Tryz.underlying3 t7
  obtain ⟨x8, e8, -, w8⟩ := DataW.trod_int Tryz.underlying3 t8
  obtain ⟨x9, e9, -, w9⟩ := DataW.trod_int Tryz.underlying3 t9
  simp only [List.cons.injEq, and_true] at e0 e1 e2 e3 e4 e5 e6 e7 e8 e9
  subst e0 e1 e2 e3 e4 e5 e6 e7 e8 e9
  have hcs := ten_vals hs c0 c1 c2 c3 c4 c5 c6 c7 c8 c9
  have b6 := bounds_u64 w6
  refine ⟨⟨x0, x1, x2, x3, x4, x5, x6, x7, x8, x9⟩, by rw [hcs], ⟨bounds_i64 w0, bounds_i64 w1, bounds_i64 w2, bounds_i64 w3, bounds_i64 w4, bounds_i64 w5, by simp only; omega, bounds_i64 w7, bounds_i64 w8, bounds_i64 w9⟩⟩

theorem farS1 {n : Int} (h : n < 0) : farS n = -n := by unfold farS; rw [if_pos h]
theorem farS2 {n : Int} (h : ¬ n < 0) : farS n = n := by unfold farS; rw [if_neg h]
def regO (n : Int) (st : Bool) : Po := ⟨1, n, (n == 31) && st, false, 0, [], 0⟩
def immO (x : Int) : Po := ⟨2, 0, false, decide (x < 0), farS x, [], 0⟩
def maskO (v : Int) : Po := ⟨2, 0, false, false, v, [], 0⟩
def shO (k t : Int) : Po := ⟨7, k, false, false, t, [], 0⟩
def memO (n x : Int) : Po := ⟨4, n, n == 31, false, farS x, [], 0⟩
def cdO (c : Nat) : Po := ⟨3, 0, false, false, 0, condsT.getD c [], 0⟩
def spO (op : Int) : Bool := op == 4 || op == 5 || op == 8 || op == 9 || op == 10
/-- The operands that tell an instruction. -/
def toldL (i : In) : List Po :=
  if shapeI i.op = 1 then [regO i.d false, immO i.imm, shO i.shift i.amount]
  else if shapeI i.op = 2 then [regO i.d (spO i.op), regO i.n true, immO i.imm, shO i.shift i.amount]
  else if shapeI i.op = 3 then [regO i.d (spO i.op), regO i.n false, maskO i.mask]
  else if shapeI i.op = 4 ∨ shapeI i.op = 5 then [regO i.d false, regO i.n false, regO i.m false, shO i.shift i.amount]
  else if shapeI i.op = 6 then [regO i.d false, regO i.n false, regO i.m false, regO i.a false]
  else if shapeI i.op = 7 ∨ shapeI i.op = 8 then [regO i.d false, memO i.n i.imm]
  else if shapeI i.op = 9 ∨ shapeI i.op = 10 then [regO i.d false, immO i.imm]
  else if shapeI i.op = 11 ∨ shapeI i.op = 14 ∨ shapeI i.op = 12 then [immO i.imm]
  else if shapeI i.op = 13 then [regO i.n false]
  else if shapeI i.op = 16 then [regO i.d false, regO i.n false, regO i.m false, cdO i.cond.toNat]
  else []
def toldN (i : In) : List UInt8 := if i.op = 31 then [98, 46] ++ condsT.getD i.cond.toNat [] else (nameI i.op).1.data.toList
theorem reg_st (m : Mk) (n : Int) (st : Bool) : checkM m (regO n st) st = m := by
  unfold checkM regO
  by_cases h : n = 31
  · subst h; cases st <;> simp
  · rw [if_neg (by simp [h])]
section
variable {f : Fm} {i : In} {nd : Nd} {wr gr : Bool}
theorem add_r0 (n : Int) {st : Bool} (hs : shapeI f.op ≠ 13) (h : stackM f.op 0 = st) : addM ⟨f, i, nd, 0, wr, gr⟩ (regO n st) = ⟨f, { i with d := n }, nd, 1, wr, gr⟩ := by
  unfold addM; rw [if_pos (by rfl)]; unfold regM placeM; rw [if_neg hs]; simp only [h]; rw [reg_st]; rfl
theorem add_r1 (n : Int) {st : Bool} (hs : shapeI f.op ≠ 13) (h : stackM f.op 1 = st) : addM ⟨f, i, nd, 1, wr, gr⟩ (regO n st) = ⟨f, { i with n := n }, nd, 2, wr, gr⟩ := by
  unfold addM; rw [if_pos (by rfl)]; unfold regM placeM; rw [if_neg hs]; simp only [h]; rw [reg_st]; rfl
theorem add_r2 (n : Int) {st : Bool} (hs : shapeI f.op ≠ 13) (h : stackM f.op 2 = st) : addM ⟨f, i, nd, 2, wr, gr⟩ (regO n st) = ⟨f, { i with m := n }, nd, 3, wr, gr⟩ := by
  unfold addM; rw [if_pos (by rfl)]; unfold regM placeM; rw [if_neg hs]; simp only [h]; rw [reg_st]; rfl
theorem add_r3 (n : Int) {st : Bool} (hs : shapeI f.op ≠ 13) (h : stackM f.op 3 = st) : addM ⟨f, i, nd, 3, wr, gr⟩ (regO n st) = ⟨f, { i with a := n }, nd, 4, wr, gr⟩ := by
  unfold addM; rw [if_pos (by rfl)]; unfold regM placeM; rw [if_neg hs]; simp only [h]; rw [reg_st]; rfl
theorem add_r13 (n : Int) {r : Int} (hs : shapeI f.op = 13) (h : stackM f.op 1 = false) : addM ⟨f, i, nd, r, wr, gr⟩ (regO n false) = ⟨f, { i with n := n }, nd, r + 1, wr, gr⟩ := by
  unfold addM; rw [if_pos (by rfl)]; unfold regM placeM; rw [if_pos hs]; simp only [h]; rw [reg_st]; rfl
theorem sign_far (n : Int) (h : i64B n) : signS (decide (n < 0)) (farS n) = (n, 0) := by
  obtain ⟨h0, h1⟩ := h
  by_cases c : n < 0
  · rw [decide_eq_true c, farS1 c, signS1 (by omega)]; simp
  · rw [decide_eq_false c, farS2 c, signS3 (by omega)]
theorem add_imm {r : Int} (x : Int) (hx : i64B x) (hs : shapeI f.op ≠ 3) : addM ⟨f, i, nd, r, wr, gr⟩ (immO x) = ⟨f, { i with imm := x }, nd, r, wr, gr⟩ := by
  unfold addM; rw [if_neg (by simp [immO]), if_pos (by rfl)]; unfold numberM; rw [if_pos hs]; unfold immM signedM
  have h := sign_far x hx
  simp [immO, h]
theorem add_mask {r : Int} (v : Int) (hs : shapeI f.op = 3) : addM ⟨f, i, nd, r, wr, gr⟩ (maskO v) = ⟨f, { i with mask := v }, nd, r, wr, gr⟩ := by
  unfold addM; rw [if_neg (by simp [maskO]), if_pos (by rfl)]; unfold numberM; rw [if_neg (by simp only; rw [hs]; decide)]; rfl
theorem add_mem {r : Int} (n x : Int) (hx : 0 ≤ x ∧ x ≤ 100000) : addM ⟨f, i, nd, r, wr, gr⟩ (memO n x) = ⟨f, { { i with n := n } with imm := x }, nd, r, wr, gr⟩ := by
  unfold addM; rw [if_neg (by simp [memO]), if_neg (by simp [memO]), if_neg (by simp [memO]), if_pos (by rfl)]; unfold memoryM
  have hck : checkM ⟨f, i, nd, r, wr, gr⟩ (memO n x) true = ⟨f, i, nd, r, wr, gr⟩ := by
    unfold checkM memO
    by_cases h : n = 31
    · subst h; simp
    · rw [if_neg (by simp [h])]
  have h : signS false (farS x) = (x, 0) := by rw [farS2 (by omega), signS3 (by omega)]
  simp only [hck]
  simp [memO, immM, signedM, h]
theorem add_sh12 {r : Int} (t : Int) (ht : 0 ≤ t ∧ t ≤ 100) (hs : ¬ (shapeI f.op = 4 ∨ shapeI f.op = 5)) : addM ⟨f, i, nd, r, wr, gr⟩ (shO 0 t) = ⟨f, { i with amount := t }, nd, r, wr, gr⟩ := by
  unfold addM; rw [if_neg (by simp [shO]), if_neg (by simp [shO]), if_neg (by simp [shO]), if_neg (by simp [shO]), if_neg (by simp [shO]), if_neg (by simp [shO]), if_pos (by rfl)]
  unfold shiftM signedM
  have h := signS3 (v := t) (by omega)
  simp [shO, h, hs]
theorem add_sh45 {r : Int} (k t : Int) (ht : 0 ≤ t ∧ t ≤ 100) (hs : shapeI f.op = 4 ∨ shapeI f.op = 5) : addM ⟨f, i, nd, r, wr, gr⟩ (shO k t) = ⟨f, { { i with amount := t } with shift := k }, nd, r, wr, gr⟩ := by
  unfold addM; rw [if_neg (by simp [shO]), if_neg (by simp [shO]), if_neg (by simp [shO]), if_neg (by simp [shO]), if_neg (by simp [shO]), if_neg (by simp [shO]), if_pos (by rfl)]
  unfold shiftM signedM
  have h := signS3 (v := t) (by omega)
  simp [shO, h, hs]
theorem add_cond {r : Int} (c : Nat) (hc : c < 14) (hs : f.op = 39) : addM ⟨f, i, nd, r, false, gr⟩ (cdO c) = ⟨f, { i with cond := (c : Int) }, nd, r, false, gr⟩ := by
  unfold addM; rw [if_neg (by simp [cdO]), if_neg (by simp [cdO]), if_pos (by rfl)]; unfold symbolM
  rw [if_neg (by simp only; rw [hs]; decide)]
  simp only [cdO]; rw [cond_at hc]; rfl
end
theorem start_plain (f : Fm) (nm : List UInt8) (h : f.op ≠ 31) : startM f nm = ⟨f, ⟨f.op, 0, 0, 0, 0, 0, 0, 0, 0, 0⟩, ndZ, 0, false, false⟩ := by unfold startM; rw [if_neg h]
theorem within_of {x l m s : Int} (h : withinI x l m s = true) : l ≤ x ∧ x ≤ m := by
  unfold withinI at h
  simp only [Bool.and_eq_true, decide_eq_true_eq] at h
  exact h.1
theorem st_no (op p : Int) (h : ¬ (4 ≤ op ∧ op ≤ 10)) : stackM op p = false := st_d op p h
/-- Ops by their shapes. -/
def opsOk (op : Int) : Bool :=
  (decide (shapeI op ≠ 2 ∧ shapeI op ≠ 3) && decide (4 ≤ op ∧ op ≤ 10) == false) || (decide (shapeI op = 2) && decide (4 ≤ op ∧ op ≤ 7)) || (decide (shapeI op = 3) && decide (8 ≤ op ∧ op ≤ 11))
theorem ops_2 : ∀ k : Nat, k < 40 → 1 ≤ k → shapeI (k : Int) = 2 → 4 ≤ k ∧ k ≤ 7 := by decide +kernel
theorem ops_3 : ∀ k : Nat, k < 40 → 1 ≤ k → shapeI (k : Int) = 3 → 8 ≤ k ∧ k ≤ 11 := by decide +kernel
theorem ops_n : ∀ k : Nat, k < 40 → 1 ≤ k → shapeI (k : Int) ≠ 2 → shapeI (k : Int) ≠ 3 → ¬ (4 ≤ k ∧ k ≤ 10) := by decide +kernel
theorem ops_12 : ∀ k : Nat, k < 40 → 1 ≤ k → (shapeI (k : Int) = 12 ↔ k = 31) := by decide +kernel
theorem ops_16 : ∀ k : Nat, k < 40 → 1 ≤ k → (shapeI (k : Int) = 16 ↔ k = 39) := by decide +kernel
/-- The operation that is sought is found. -/
def kindsT (s : Int) : List UInt8 :=
  if s = 1 then [114, 110, 104] else if s = 2 then [114, 114, 110, 104] else if s = 3 then [114, 114, 110] else if s = 4 ∨ s = 5 then [114, 114, 114, 104] else if s = 6 then [114, 114, 114, 114] else if s = 7 ∨ s = 8 then [114, 109]
  else if s = 9 ∨ s = 10 then [114, 110] else if s = 11 ∨ s = 14 ∨ s = 12 then [110] else if s = 13 then [114] else if s = 16 then [114, 114, 114, 115] else []
theorem kinds_told (i : In) : kindsL (toldL i) = kindsT (shapeI i.op) := by
  unfold toldL kindsT
  repeat' (first | rfl | split)
theorem found_T : ∀ k : Nat, k < 40 → 1 ≤ k → k ≠ 31 → (nameT (nameI (k : Int)).1.data.toList).map (fun fs => (seekF fs (kindsT (shapeI (k : Int)))).op) = some (k : Int) := by decide +kernel
theorem found_C : ∀ c : Nat, c < 14 → (nameT ([98, 46] ++ condsT.getD c [])).map (fun fs => (seekF fs [110]).op) = some 31 := by decide +kernel
theorem own_of {i : In} {s : Int} (h : isI i = true) (hs : shapeI i.op = s) : ownI s i = i ∧ numI s i = true := by
  unfold isI at h
  rw [hs] at h
  simp only [Bool.and_eq_true] at h
  refine ⟨?_, h.2⟩
  have := h.1.1.2
  unfold sameI at this
  simp only [Bool.and_eq_true, beq_iff_eq] at this
  obtain ⟨⟨⟨⟨⟨⟨⟨⟨⟨e0, e1⟩, e2⟩, e3⟩, e4⟩, e5⟩, e6⟩, e7⟩, e8⟩, e9⟩ := this
  cases i
  simp only [ownI, In.mk.injEq] at *
  exact ⟨trivial, e1.symm, e2.symm, e3.symm, e4.symm, e5.symm, e6.symm, e7.symm, e8.symm, e9.symm⟩
theorem fin_ok {f : Fm} {i : In} {nm : List UInt8} {l : List Po} {r : Int} (hI : isI i = true) (hl : l ≠ [] ∨ f.op ≠ 36) (h0 : f.op ≠ 0) (h : fillM f nm l = ⟨f, i, ndZ, r, false, false⟩) : makeF f nm l = (i, ndZ, 0) := by
  unfold makeF
  rw [if_neg h0, h]
  unfold endM
  rw [if_neg (by rintro ⟨a, b⟩; exact hl.elim (fun c => c b) (fun c => c a))]
  unfold doneM
  rw [if_neg (by simp), if_neg (by simp [hI])]
theorem seek_of {nm : List UInt8} {kd : List UInt8} {k : Int} (h : (nameT nm).map (fun fs => (seekF fs kd).op) = some k) : ∃ fs, nameT nm = some fs ∧ (seekF fs kd).op = k := by
  cases hn : nameT nm with
  | none => rw [hn] at h; cases h
  | some fs => rw [hn] at h; exact ⟨fs, rfl, Option.some.inj h⟩
theorem b_within {x l m s : Int} {b : Bool} (h : (withinI x l m s && b) = true) : (l ≤ x ∧ x ≤ m) ∧ b = true := by
  rw [Bool.and_eq_true] at h; exact ⟨within_of h.1, h.2⟩
section
variable {f : Fm} {i : In} {nm : List UInt8}
theorem fill_1 (hI : isI i = true) (hB : InB i) (hs : shapeI i.op = 1) (hf : f.op = i.op) (h1 : 1 ≤ i.op ∧ i.op < 40) : fillM f nm (toldL i) = ⟨f, i, ndZ, 1, false, false⟩ := by
  obtain ⟨own, num⟩ := own_of hI hs
  obtain ⟨k, hk⟩ := Int.eq_ofNat_of_zero_le (show 0 ≤ i.op by omega)
  have hS : shapeI f.op = 1 := by rw [hf]; exact hs
  have hl : toldL i = [regO i.d false, immO i.imm, shO 0 i.amount] := by have h0 : i.shift = 0 := (congrArg In.shift own).symm; unfold toldL; simp [hs, h0]
  have hp : f.op ≠ 31 := by rw [hf]; intro e; rw [e] at hs; exact absurd hs (by decide)
  have hst : ∀ p, stackM f.op p = false := fun p => st_d _ p (by have := ops_n k (by omega) (by omega) (by rw [← hk, hs]; decide) (by rw [← hk, hs]; decide); omega)
  have h0 : i.shift = 0 := (congrArg In.shift own).symm
  obtain ⟨-, n2⟩ := b_within num
  have n3 := within_of n2
  unfold fillM
  rw [hl]
  simp only [List.foldl_cons, List.foldl_nil]
  rw [start_plain f nm hp, add_r0 _ (by rw [hS]; decide) (hst 0), add_imm _ hB.imm (by rw [hS]; decide), add_sh12 _ (by omega) (by rw [hS]; decide)]
  exact congrArg (fun j => (⟨f, j, ndZ, 1, false, false⟩ : Mk)) ((by rw [hf]; rfl : _ = ownI 1 i).trans own)
theorem fill_2 (hI : isI i = true) (hB : InB i) (hs : shapeI i.op = 2) (hf : f.op = i.op) (h1 : 1 ≤ i.op ∧ i.op < 40) : fillM f nm (toldL i) = ⟨f, i, ndZ, 2, false, false⟩ := by
  obtain ⟨own, num⟩ := own_of hI hs
  obtain ⟨k, hk⟩ := Int.eq_ofNat_of_zero_le (show 0 ≤ i.op by omega)
  have hS : shapeI f.op = 2 := by rw [hf]; exact hs
  have hl : toldL i = [regO i.d (spO i.op), regO i.n true, immO i.imm, shO 0 i.amount] := by have h0 : i.shift = 0 := (congrArg In.shift own).symm; unfold toldL; simp [hs, h0]
  have hp : f.op ≠ 31 := by rw [hf]; intro e; rw [e] at hs; exact absurd hs (by decide)
  have h0 : i.shift = 0 := (congrArg In.shift own).symm
  obtain ⟨-, n2⟩ := b_within num
  have n3 := within_of n2
  have hk4 := ops_2 k (by omega) (by omega) (by rw [← hk]; exact hs)
  have hc : k = 4 ∨ k = 5 ∨ k = 6 ∨ k = 7 := by omega
  have sp0 : stackM f.op 0 = spO i.op := by rw [hf, hk]; rcases hc with rfl | rfl | rfl | rfl <;> decide
  have sp1 : stackM f.op 1 = true := by rw [hf, hk]; rcases hc with rfl | rfl | rfl | rfl <;> decide
  unfold fillM
  rw [hl]
  simp only [List.foldl_cons, List.foldl_nil]
  rw [start_plain f nm hp, add_r0 _ (by rw [hS]; decide) sp0, add_r1 _ (by rw [hS]; decide) sp1, add_imm _ hB.imm (by rw [hS]; decide), add_sh12 _ (by omega) (by rw [hS]; decide)]
  exact congrArg (fun j => (⟨f, j, ndZ, 2, false, false⟩ : Mk)) ((by rw [hf]; rfl : _ = ownI 2 i).trans own)
theorem fill_3 (hI : isI i = true) (hB : InB i) (hs : shapeI i.op = 3) (hf : f.op = i.op) (h1 : 1 ≤ i.op ∧ i.op < 40) : fillM f nm (toldL i) = ⟨f, i, ndZ, 2, false, false⟩ := by
  obtain ⟨own, num⟩ := own_of hI hs
  obtain ⟨k, hk⟩ := Int.eq_ofNat_of_zero_le (show 0 ≤ i.op by omega)
  have hS : shapeI f.op = 3 := by rw [hf]; exact hs
  have hl : toldL i = [regO i.d (spO i.op), regO i.n false, maskO i.mask] := by unfold toldL; simp [hs]
  have hp : f.op ≠ 31 := by rw [hf]; intro e; rw [e] at hs; exact absurd hs (by decide)
  have hk4 := ops_3 k (by omega) (by omega) (by rw [← hk]; exact hs)
  have hc : k = 8 ∨ k = 9 ∨ k = 10 ∨ k = 11 := by omega
  have sp0 : stackM f.op 0 = spO i.op := by rw [hf, hk]; rcases hc with rfl | rfl | rfl | rfl <;> decide
  have sp1 : stackM f.op 1 = false := by rw [hf, hk]; rcases hc with rfl | rfl | rfl | rfl <;> decide
  unfold fillM
  rw [hl]
  simp only [List.foldl_cons, List.foldl_nil]
  rw [start_plain f nm hp, add_r0 _ (by rw [hS]; decide) sp0, add_r1 _ (by rw [hS]; decide) sp1, add_mask _ hS]
  exact congrArg (fun j => (⟨f, j, ndZ, 2, false, false⟩ : Mk)) ((by rw [hf]; rfl : _ = ownI 3 i).trans own)
theorem fill_4 (hI : isI i = true) (hB : InB i) (hs : shapeI i.op = 4) (hf : f.op = i.op) (h1 : 1 ≤ i.op ∧ i.op < 40) : fillM f nm (toldL i) = ⟨f, i, ndZ, 3, false, false⟩ := by
  obtain ⟨own, num⟩ := own_of hI hs
  obtain ⟨k, hk⟩ := Int.eq_ofNat_of_zero_le (show 0 ≤ i.op by omega)
  have hS : shapeI f.op = 4 := by rw [hf]; exact hs
  have hl : toldL i = [regO i.d false, regO i.n false, regO i.m false, shO i.shift i.amount] := by unfold toldL; simp [hs]
  have hp : f.op ≠ 31 := by rw [hf]; intro e; rw [e] at hs; exact absurd hs (by decide)
  have hst : ∀ p, stackM f.op p = false := fun p => st_d _ p (by have := ops_n k (by omega) (by omega) (by rw [← hk, hs]; decide) (by rw [← hk, hs]; decide); omega)
  obtain ⟨-, n2⟩ := b_within num
  have n3 := within_of n2
  unfold fillM
  rw [hl]
  simp only [List.foldl_cons, List.foldl_nil]
  rw [start_plain f nm hp, add_r0 _ (by rw [hS]; decide) (hst 0), add_r1 _ (by rw [hS]; decide) (hst 1), add_r2 _ (by rw [hS]; decide) (hst 2), add_sh45 _ _ (by omega) (by rw [hS]; decide)]
  exact congrArg (fun j => (⟨f, j, ndZ, 3, false, false⟩ : Mk)) ((by rw [hf]; rfl : _ = ownI 4 i).trans own)
theorem fill_5 (hI : isI i = true) (hB : InB i) (hs : shapeI i.op = 5) (hf : f.op = i.op) (h1 : 1 ≤ i.op ∧ i.op < 40) : fillM f nm (toldL i) = ⟨f, i, ndZ, 3, false, false⟩ := by
  obtain ⟨own, num⟩ := own_of hI hs
  obtain ⟨k, hk⟩ := Int.eq_ofNat_of_zero_le (show 0 ≤ i.op by omega)
  have hS : shapeI f.op = 5 := by rw [hf]; exact hs
  have hl : toldL i = [regO i.d false, regO i.n false, regO i.m false, shO i.shift i.amount] := by unfold toldL; simp [hs]
  have hp : f.op ≠ 31 := by rw [hf]; intro e; rw [e] at hs; exact absurd hs (by decide)
  have hst : ∀ p, stackM f.op p = false := fun p => st_d _ p (by have := ops_n k (by omega) (by omega) (by rw [← hk, hs]; decide) (by rw [← hk, hs]; decide); omega)
  obtain ⟨-, n2⟩ := b_within num
  have n3 := within_of n2
  unfold fillM
  rw [hl]
  simp only [List.foldl_cons, List.foldl_nil]
  rw [start_plain f nm hp, add_r0 _ (by rw [hS]; decide) (hst 0), add_r1 _ (by rw [hS]; decide) (hst 1), add_r2 _ (by rw [hS]; decide) (hst 2), add_sh45 _ _ (by omega) (by rw [hS]; decide)]
  exact congrArg (fun j => (⟨f, j, ndZ, 3, false, false⟩ : Mk)) ((by rw [hf]; rfl : _ = ownI 5 i).trans own)
theorem fill_6 (hI : isI i = true) (hB : InB i) (hs : shapeI i.op = 6) (hf : f.op = i.op) (h1 : 1 ≤ i.op ∧ i.op < 40) : fillM f nm (toldL i) = ⟨f, i, ndZ, 4, false, false⟩ := by
  obtain ⟨own, num⟩ := own_of hI hs
  obtain ⟨k, hk⟩ := Int.eq_ofNat_of_zero_le (show 0 ≤ i.op by omega)
  have hS : shapeI f.op = 6 := by rw [hf]; exact hs
  have hl : toldL i = [regO i.d false, regO i.n false, regO i.m false, regO i.a false] := by unfold toldL; simp [hs]
  have hp : f.op ≠ 31 := by rw [hf]; intro e; rw [e] at hs; exact absurd hs (by decide)
  have hst : ∀ p, stackM f.op p = false := fun p => st_d _ p (by have := ops_n k (by omega) (by omega) (by rw [← hk, hs]; decide) (by rw [← hk, hs]; decide); omega)
  unfold fillM
  rw [hl]
  simp only [List.foldl_cons, List.foldl_nil]
  rw [start_plain f nm hp, add_r0 _ (by rw [hS]; decide) (hst 0), add_r1 _ (by rw [hS]; decide) (hst 1), add_r2 _ (by rw [hS]; decide) (hst 2), add_r3 _ (by rw [hS]; decide) (hst 3)]
  exact congrArg (fun j => (⟨f, j, ndZ, 4, false, false⟩ : Mk)) ((by rw [hf]; rfl : _ = ownI 6 i).trans own)
theorem fill_7 (hI : isI i = true) (hB : InB i) (hs : shapeI i.op = 7) (hf : f.op = i.op) (h1 : 1 ≤ i.op ∧ i.op < 40) : fillM f nm (toldL i) = ⟨f, i, ndZ, 1, false, false⟩ := by
  obtain ⟨own, num⟩ := own_of hI hs
  obtain ⟨k, hk⟩ := Int.eq_ofNat_of_zero_le (show 0 ≤ i.op by omega)
  have hS : shapeI f.op = 7 := by rw [hf]; exact hs
  have hl : toldL i = [regO i.d false, memO i.n i.imm] := by unfold toldL; simp [hs]
  have hp : f.op ≠ 31 := by rw [hf]; intro e; rw [e] at hs; exact absurd hs (by decide)
  have hst : ∀ p, stackM f.op p = false := fun p => st_d _ p (by have := ops_n k (by omega) (by omega) (by rw [← hk, hs]; decide) (by rw [← hk, hs]; decide); omega)
  have n3 := within_of (show withinI i.imm 0 32760 8 = true from num)
  unfold fillM
  rw [hl]
  simp only [List.foldl_cons, List.foldl_nil]
  rw [start_plain f nm hp, add_r0 _ (by rw [hS]; decide) (hst 0), add_mem _ _ (by omega)]
  exact congrArg (fun j => (⟨f, j, ndZ, 1, false, false⟩ : Mk)) ((by rw [hf]; rfl : _ = ownI 7 i).trans own)
theorem fill_8 (hI : isI i = true) (hB : InB i) (hs : shapeI i.op = 8) (hf : f.op = i.op) (h1 : 1 ≤ i.op ∧ i.op < 40) : fillM f nm (toldL i) = ⟨f, i, ndZ, 1, false, false⟩ := by
  obtain ⟨own, num⟩ := own_of hI hs
  obtain ⟨k, hk⟩ := Int.eq_ofNat_of_zero_le (show 0 ≤ i.op by omega)
  have hS : shapeI f.op = 8 := by rw [hf]; exact hs
  have hl : toldL i = [regO i.d false, memO i.n i.imm] := by unfold toldL; simp [hs]
  have hp : f.op ≠ 31 := by rw [hf]; intro e; rw [e] at hs; exact absurd hs (by decide)
  have hst : ∀ p, stackM f.op p = false := fun p => st_d _ p (by have := ops_n k (by omega) (by omega) (by rw [← hk, hs]; decide) (by rw [← hk, hs]; decide); omega)
  have n3 := within_of (show withinI i.imm 0 4095 1 = true from num)
  unfold fillM
  rw [hl]
  simp only [List.foldl_cons, List.foldl_nil]
  rw [start_plain f nm hp, add_r0 _ (by rw [hS]; decide) (hst 0), add_mem _ _ (by omega)]
  exact congrArg (fun j => (⟨f, j, ndZ, 1, false, false⟩ : Mk)) ((by rw [hf]; rfl : _ = ownI 8 i).trans own)
theorem fill_9 (hI : isI i = true) (hB : InB i) (hs : shapeI i.op = 9) (hf : f.op = i.op) (h1 : 1 ≤ i.op ∧ i.op < 40) : fillM f nm (toldL i) = ⟨f, i, ndZ, 1, false, false⟩ := by
  obtain ⟨own, num⟩ := own_of hI hs
  obtain ⟨k, hk⟩ := Int.eq_ofNat_of_zero_le (show 0 ≤ i.op by omega)
  have hS : shapeI f.op = 9 := by rw [hf]; exact hs
  have hl : toldL i = [regO i.d false, immO i.imm] := by unfold toldL; simp [hs]
  have hp : f.op ≠ 31 := by rw [hf]; intro e; rw [e] at hs; exact absurd hs (by decide)
  have hst : ∀ p, stackM f.op p = false := fun p => st_d _ p (by have := ops_n k (by omega) (by omega) (by rw [← hk, hs]; decide) (by rw [← hk, hs]; decide); omega)
  unfold fillM
  rw [hl]
  simp only [List.foldl_cons, List.foldl_nil]
  rw [start_plain f nm hp, add_r0 _ (by rw [hS]; decide) (hst 0), add_imm _ hB.imm (by rw [hS]; decide)]
  exact congrArg (fun j => (⟨f, j, ndZ, 1, false, false⟩ : Mk)) ((by rw [hf]; rfl : _ = ownI 9 i).trans own)
theorem fill_10 (hI : isI i = true) (hB : InB i) (hs : shapeI i.op = 10) (hf : f.op = i.op) (h1 : 1 ≤ i.op ∧ i.op < 40) : fillM f nm (toldL i) = ⟨f, i, ndZ, 1, false, false⟩ := by
  obtain ⟨own, num⟩ := own_of hI hs
  obtain ⟨k, hk⟩ := Int.eq_ofNat_of_zero_le (show 0 ≤ i.op by omega)
  have hS : shapeI f.op = 10 := by rw [hf]; exact hs
  have hl : toldL i = [regO i.d false, immO i.imm] := by unfold toldL; simp [hs]
  have hp : f.op ≠ 31 := by rw [hf]; intro e; rw [e] at hs; exact absurd hs (by decide)
  have hst : ∀ p, stackM f.op p = false := fun p => st_d _ p (by have := ops_n k (by omega) (by omega) (by rw [← hk, hs]; decide) (by rw [← hk, hs]; decide); omega)
  unfold fillM
  rw [hl]
  simp only [List.foldl_cons, List.foldl_nil]
  rw [start_plain f nm hp, add_r0 _ (by rw [hS]; decide) (hst 0), add_imm _ hB.imm (by rw [hS]; decide)]
  exact congrArg (fun j => (⟨f, j, ndZ, 1, false, false⟩ : Mk)) ((by rw [hf]; rfl : _ = ownI 10 i).trans own)
theorem fill_11 (hI : isI i = true) (hB : InB i) (hs : shapeI i.op = 11) (hf : f.op = i.op) (h1 : 1 ≤ i.op ∧ i.op < 40) : fillM f nm (toldL i) = ⟨f, i, ndZ, 0, false, false⟩ := by
  obtain ⟨own, num⟩ := own_of hI hs
  obtain ⟨k, hk⟩ := Int.eq_ofNat_of_zero_le (show 0 ≤ i.op by omega)
  have hS : shapeI f.op = 11 := by rw [hf]; exact hs
  have hl : toldL i = [immO i.imm] := by unfold toldL; simp [hs]
  have hp : f.op ≠ 31 := by rw [hf]; intro e; rw [e] at hs; exact absurd hs (by decide)
  unfold fillM
  rw [hl]
  simp only [List.foldl_cons, List.foldl_nil]
  rw [start_plain f nm hp, add_imm _ hB.imm (by rw [hS]; decide)]
  exact congrArg (fun j => (⟨f, j, ndZ, 0, false, false⟩ : Mk)) ((by rw [hf]; rfl : _ = ownI 11 i).trans own)
theorem fill_14 (hI : isI i = true) (hB : InB i) (hs : shapeI i.op = 14) (hf : f.op = i.op) (h1 : 1 ≤ i.op ∧ i.op < 40) : fillM f nm (toldL i) = ⟨f, i, ndZ, 0, false, false⟩ := by
  obtain ⟨own, num⟩ := own_of hI hs
  obtain ⟨k, hk⟩ := Int.eq_ofNat_of_zero_le (show 0 ≤ i.op by omega)
  have hS : shapeI f.op = 14 := by rw [hf]; exact hs
  have hl : toldL i = [immO i.imm] := by unfold toldL; simp [hs]
  have hp : f.op ≠ 31 := by rw [hf]; intro e; rw [e] at hs; exact absurd hs (by decide)
  unfold fillM
  rw [hl]
  simp only [List.foldl_cons, List.foldl_nil]
  rw [start_plain f nm hp, add_imm _ hB.imm (by rw [hS]; decide)]
  exact congrArg (fun j => (⟨f, j, ndZ, 0, false, false⟩ : Mk)) ((by rw [hf]; rfl : _ = ownI 14 i).trans own)
theorem fill_13 (hI : isI i = true) (hB : InB i) (hs : shapeI i.op = 13) (hf : f.op = i.op) (h1 : 1 ≤ i.op ∧ i.op < 40) : fillM f nm (toldL i) = ⟨f, i, ndZ, 0 + 1, false, false⟩ := by
  obtain ⟨own, num⟩ := own_of hI hs
  obtain ⟨k, hk⟩ := Int.eq_ofNat_of_zero_le (show 0 ≤ i.op by omega)
  have hS : shapeI f.op = 13 := by rw [hf]; exact hs
  have hl : toldL i = [regO i.n false] := by unfold toldL; simp [hs]
  have hp : f.op ≠ 31 := by rw [hf]; intro e; rw [e] at hs; exact absurd hs (by decide)
  have hst : ∀ p, stackM f.op p = false := fun p => st_d _ p (by have := ops_n k (by omega) (by omega) (by rw [← hk, hs]; decide) (by rw [← hk, hs]; decide); omega)
  unfold fillM
  rw [hl]
  simp only [List.foldl_cons, List.foldl_nil]
  rw [start_plain f nm hp, add_r13 _ hS (hst 1)]
  exact congrArg (fun j => (⟨f, j, ndZ, 0 + 1, false, false⟩ : Mk)) ((by rw [hf]; rfl : _ = ownI 13 i).trans own)
theorem fill_15 (hI : isI i = true) (hB : InB i) (hs : shapeI i.op = 15) (hf : f.op = i.op) (h1 : 1 ≤ i.op ∧ i.op < 40) : fillM f nm (toldL i) = ⟨f, i, ndZ, 0, false, false⟩ := by
  obtain ⟨own, num⟩ := own_of hI hs
  obtain ⟨k, hk⟩ := Int.eq_ofNat_of_zero_le (show 0 ≤ i.op by omega)
  have hS : shapeI f.op = 15 := by rw [hf]; exact hs
  have hl : toldL i = [] := by unfold toldL; simp [hs]
  have hp : f.op ≠ 31 := by rw [hf]; intro e; rw [e] at hs; exact absurd hs (by decide)
  unfold fillM
  rw [hl]
  simp only [List.foldl_cons, List.foldl_nil]
  rw [start_plain f nm hp]
  exact congrArg (fun j => (⟨f, j, ndZ, 0, false, false⟩ : Mk)) ((by rw [hf]; rfl : _ = ownI 15 i).trans own)
theorem fill_16 (hI : isI i = true) (hB : InB i) (hs : shapeI i.op = 16) (hf : f.op = i.op) (h1 : 1 ≤ i.op ∧ i.op < 40) {c : Nat} (hc : c < 14) (hcc : i.cond = (c : Int)) : fillM f nm (toldL i) = ⟨f, i, ndZ, 3, false, false⟩ := by
  obtain ⟨own, num⟩ := own_of hI hs
  obtain ⟨k, hk⟩ := Int.eq_ofNat_of_zero_le (show 0 ≤ i.op by omega)
  have hS : shapeI f.op = 16 := by rw [hf]; exact hs
  have hl : toldL i = [regO i.d false, regO i.n false, regO i.m false, cdO c] := by unfold toldL; simp [hs, hcc]
  have hp : f.op ≠ 31 := by rw [hf]; intro e; rw [e] at hs; exact absurd hs (by decide)
  have hst : ∀ p, stackM f.op p = false := fun p => st_d _ p (by have := ops_n k (by omega) (by omega) (by rw [← hk, hs]; decide) (by rw [← hk, hs]; decide); omega)
  have h39 : f.op = 39 := by rw [hf, hk, (ops_16 k (by omega) (by omega)).1 (by rw [← hk]; exact hs)]; rfl
  unfold fillM
  rw [hl]
  simp only [List.foldl_cons, List.foldl_nil]
  rw [start_plain f nm hp, add_r0 _ (by rw [hS]; decide) (hst 0), add_r1 _ (by rw [hS]; decide) (hst 1), add_r2 _ (by rw [hS]; decide) (hst 2), add_cond c hc h39]
  exact congrArg (fun j => (⟨f, j, ndZ, 3, false, false⟩ : Mk)) ((by rw [hf, ← hcc]; rfl : _ = ownI 16 i).trans own)
theorem trim_cond : ∀ c : Nat, c < 14 → Lib.trimPrefix ([98, 46] ++ condsT.getD c []) [98, 46] = condsT.getD c [] := by decide +kernel
theorem fill_12 (hI : isI i = true) (hB : InB i) (hs : shapeI i.op = 12) (hf : f.op = i.op) (h31 : i.op = 31) {c : Nat} (hc : c < 14) (hcc : i.cond = (c : Int)) : fillM f ([98, 46] ++ condsT.getD c []) (toldL i) = ⟨f, i, ndZ, 0, false, false⟩ := by
  obtain ⟨own, num⟩ := own_of hI hs
  have hS : shapeI f.op = 12 := by rw [hf]; exact hs
  have hl : toldL i = [immO i.imm] := by unfold toldL; simp [hs]
  have hp : f.op = 31 := by rw [hf]; exact h31
  have h0 : startM f ([98, 46] ++ condsT.getD c []) = ⟨f, ⟨f.op, 0, 0, 0, 0, 0, 0, 0, 0, (c : Int)⟩, ndZ, 0, false, false⟩ := by
    unfold startM; rw [if_pos hp, trim_cond c hc, cond_at hc]
  unfold fillM
  rw [hl]
  simp only [List.foldl_cons, List.foldl_nil]
  rw [h0, add_imm _ hB.imm (by rw [hS]; decide)]
  exact congrArg (fun j => (⟨f, j, ndZ, 0, false, false⟩ : Mk)) ((by rw [hf, ← hcc]; rfl : _ = ownI 12 i).trans own)
end
theorem cond_told {i : In} (hI : isI i = true) (hs : shapeI i.op = 12 ∨ shapeI i.op = 16) : ∃ c : Nat, c < 14 ∧ i.cond = (c : Int) := by
  have h : 0 ≤ i.cond ∧ i.cond ≤ 13 := by
    rcases hs with hs | hs
    · have n := (own_of hI hs).2
      exact within_of (b_within n).2
    · exact within_of (show withinI i.cond 0 13 1 = true from (own_of hI hs).2)
  exact ⟨i.cond.toNat, by omega, by omega⟩
theorem isI_shape {i : In} (h : isI i = true) : shapeI i.op ≠ 0 := by
  unfold isI at h
  simp only [Bool.and_eq_true, bne_iff_ne] at h
  exact h.1.1.1
/-- An instruction is made of the operands that tell it. -/
theorem told_ok {i : In} (hI : isI i = true) (hB : InB i) : makeL (toldN i) (toldL i) = (i, ndZ, 0) := by
  have h0 := isI_shape hI
  have hb := shapeI_b i.op
  have h1 : 1 ≤ i.op ∧ i.op < 40 := by
    by_cases c : i.op < 1 ∨ 39 < i.op
    · exact absurd (by unfold shapeI; rw [if_pos c]) h0
    · omega
  obtain ⟨k, hk⟩ := Int.eq_ofNat_of_zero_le (show 0 ≤ i.op by omega)
  have h12 := ops_12 k (by omega) (by omega)
  have hseek : ∃ fs, nameT (toldN i) = some fs ∧ (seekF fs (kindsL (toldL i))).op = i.op := by
    rw [kinds_told]
    unfold toldN
    by_cases c : i.op = 31
    · rw [if_pos c, c]
      obtain ⟨cc, hc, hcc⟩ := cond_told hI (.inl (by rw [hk]; exact h12.2 (by omega)))
      rw [hcc, Int.toNat_natCast]
      exact seek_of (found_C cc hc)
    · rw [if_neg c, hk]
      exact seek_of (found_T k (by omega) (by omega) (by omega))
  obtain ⟨fs, hn, hf⟩ := hseek
  unfold makeL
  rw [hn]
  show makeF (seekF fs (kindsL (toldL i))) (toldN i) (toldL i) = (i, ndZ, 0)
  generalize seekF fs (kindsL (toldL i)) = f at hf ⊢
  have hne : f.op ≠ 0 := by omega
  have hl : toldL i ≠ [] ∨ f.op ≠ 36 := by
    by_cases c : f.op = 36
    · left
      have : i.op = 36 := by omega
      unfold toldL
      rw [this]
      rw [if_neg (by decide), if_neg (by decide), if_neg (by decide), if_neg (by decide), if_neg (by decide), if_neg (by decide), if_neg (by decide), if_neg (by decide), if_pos (by decide)]
      simp
    · exact .inr c
  have hc : shapeI i.op = 1 ∨ shapeI i.op = 2 ∨ shapeI i.op = 3 ∨ shapeI i.op = 4 ∨ shapeI i.op = 5 ∨ shapeI i.op = 6 ∨ shapeI i.op = 7 ∨ shapeI i.op = 8 ∨ shapeI i.op = 9 ∨ shapeI i.op = 10 ∨ shapeI i.op = 11 ∨ shapeI i.op = 13 ∨ shapeI i.op = 14 ∨ shapeI i.op = 15 ∨ shapeI i.op = 12 ∨ shapeI i.op = 16 := by omega
  rcases hc with hs | hs | hs | hs | hs | hs | hs | hs | hs | hs | hs | hs | hs | hs | hs | hs
  · exact fin_ok hI hl hne (fill_1 hI hB hs hf h1)
  · exact fin_ok hI hl hne (fill_2 hI hB hs hf h1)
  · exact fin_ok hI hl hne (fill_3 hI hB hs hf h1)
  · exact fin_ok hI hl hne (fill_4 hI hB hs hf h1)
  · exact fin_ok hI hl hne (fill_5 hI hB hs hf h1)
  · exact fin_ok hI hl hne (fill_6 hI hB hs hf h1)
  · exact fin_ok hI hl hne (fill_7 hI hB hs hf h1)
  · exact fin_ok hI hl hne (fill_8 hI hB hs hf h1)
  · exact fin_ok hI hl hne (fill_9 hI hB hs hf h1)
  · exact fin_ok hI hl hne (fill_10 hI hB hs hf h1)
  · exact fin_ok hI hl hne (fill_11 hI hB hs hf h1)
  · exact fin_ok hI hl hne (fill_13 hI hB hs hf h1)
  · exact fin_ok hI hl hne (fill_14 hI hB hs hf h1)
  · exact fin_ok hI hl hne (fill_15 hI hB hs hf h1)
  · obtain ⟨c, hc, hcc⟩ := cond_told hI (.inl hs)
    have h31 : i.op = 31 := by have := h12.1 (by rw [← hk]; exact hs); omega
    have hN : toldN i = [98, 46] ++ condsT.getD c [] := by unfold toldN; rw [if_pos h31, hcc, Int.toNat_natCast]
    rw [hN]
    exact fin_ok hI hl hne (fill_12 hI hB hs hf h31 hc hcc)
  · obtain ⟨c, hc, hcc⟩ := cond_told hI (.inr hs)
    exact fin_ok hI hl hne (fill_16 hI hB hs hf h1 hc hcc)

theorem neg_u64 {n : Int} (h : n < 0) (h0 : -9223372036854775808 ≤ n) : IntKind.u64.wrap (-IntKind.u64.wrap n) = -n := by rw [IntKind.wrap_u64, IntKind.wrap_u64]; omega
theorem ret_of {b : Bool} {x y : Int} {w : World} (h : x = y) : Ret (.tuple #[.bool b, .int .u64 y]) w (.returned (.tuple #[.bool b, .int .u64 x])) w := by subst h; exact ⟨rfl, rfl⟩
set_option maxHeartbeats 1000000 in
theorem Of_any (n : Int) (w : World) (h0 : -9223372036854775808 ≤ n) (h1 : n ≤ 9223372036854775807) :
    Calls Tryz.prog 13 #[.int .i64 n] w (Ret (.tuple #[.bool (decide (n < 0)), .int .u64 (farS n)]) w) := by
  by_cases c : n < 0
  · rw [decide_eq_true c, farS1 c]
    have HW := Lib.hid (neg_u64 c h0)
    go_enter Tryz.func13, Tryz.ntmps13
    go_wp2
    go_ret2
    exact ret_of (by first | rfl | rw [HW.out] | (simp only [IntKind.wrap_u64]; omega))
  · rw [decide_eq_false c, farS2 c]
    go_enter Tryz.func13, Tryz.ntmps13
    go_wp2
    go_ret2
    exact ret_of (by first | rfl | (simp only [IntKind.wrap_u64]; omega))
set_option maxHeartbeats 1000000 in
theorem reg1_any (n : Int) (st : Bool) (u : World) : Calls Tryz.prog 12 #[.int .i64 n, .bool st] u (RetB (.agg (poA (regO n st))) u) := by
  obtain ⟨V, hV⟩ : ∃ V, V = u.alloc (.cells (poA (regO n st)) 38) := ⟨_, rfl⟩
  have hb : Below u.heap.size u V := by rw [hV]; exact (Below.refl _ _).alloc (Nat.le_refl _) _
  have hc : ∀ j, V.cell? ⟨u.heap.size, j, none⟩ = (poA (regO n st))[j]? := fun j => by rw [hV]; unfold World.cell?; rw [(MapKept.heap_alloc u _).1]; rfl
  have HB := Lib.hid hb
  by_cases c : n = 31
  · subst c
    cases st
    all_goals
      go_enter Tryz.func12, Tryz.ntmps12
      go_wp2
      refine bodyPost_ret (by simp [results, Tryz.results12, go_sem, regO]) rfl ⟨rfl, ?_⟩
      exact (Below.refl _ _).alloc (Nat.le_refl _) _
  · have q : (n == 31) = false := by simpa using c
    have e : regO n st = ⟨1, n, false, false, 0, [], 0⟩ := by unfold regO; rw [q]; rfl
    rw [e]
    clear c e hV hb hc HB
    go_enter Tryz.func12, Tryz.ntmps12
    go_wp2
    refine bodyPost_ret (by simp [results, Tryz.results12, go_sem, regO]) rfl ⟨rfl, ?_⟩
    exact (Below.refl _ _).alloc (Nat.le_refl _) _
theorem eqI (i : In) (u : World) : Sem.run Tryz.prog (binOp .eql 26 (inV i) (inV i)) u = .ok (.bool true) u := by
  obtain ⟨o, d, n, m, a, x, k, h, t, c⟩ := i
  simp [go_sem]
theorem po_ones (l : List Po) : ∀ u ∈ l.flatMap poC, u.oneCell' = true := by
  intro u hu
  obtain ⟨b, -, hb⟩ := List.mem_flatMap.1 hu
  simp only [poC, List.mem_cons, List.not_mem_nil, or_false] at hb
  rcases hb with rfl | rfl | rfl | rfl | rfl | rfl | rfl <;> rfl
/-- Operands, appended to none. -/
theorem app_po {w : World} {m c : Nat} {ys : List Po} {ad : Addr} (hs : SL poC 7 w w.heap.size (some ad) m ys) (hm : m ≤ 300) (ty : TypeId) :
    ∃ a' c' w', (Builtin.append_ #[22, 22] ty #[.slice none 0 0, .slice (some ad) m c]).run Tryz.prog w = .ok (.slice a' m c') w' ∧ SL poC 7 w' w'.heap.size a' m ys ∧ Below w.heap.size w w' := by
  obtain ⟨i0, hi, hi0, hi1, hi2⟩ := info_parts info_opnd
  have hfl : (ys.flatMap poC).length = m * 7 := by rw [flat_len po_len, hs.len]
  have hown := World.ownsRow_nil w w.heap.size 38 7
  obtain ⟨v', w', hr, ho, hgr, -⟩ := run_append_own (P := Tryz.prog) w w.heap.size 22 ty 38 i0 _ 7 56 Tryz.underlying22 hi hi0 hi1 hi2 rfl (by decide) _ 0 _ hown ad m c (ys.flatMap poC) hfl (hs.news po_len (by decide)) (po_ones ys) (by unfold maxLen; omega) (by omega) (Nat.le_refl _)
  rw [Nat.zero_add, List.nil_append] at ho
  obtain ⟨a', c', rfl, hsl, -⟩ := SL.ofOwns po_len (by omega) ho
  exact ⟨a', c', w', hr, hsl, (Below.refl _ _).grown hgr (Nat.le_refl _) (fun k hk => by simp [Value.ownBlock] at hk)⟩
theorem step_run {w : World} {ops : Array Oper} {o : Oper} {a : Act} {K : Act → World → Prop} {Q : Exit → Act → World → Prop} {E : Prop} (hgd : o.guard = none) (s x : Operand) (t : TypeId)
    (ho : o.op = .call { callee := .builtin .append, args := #[s, x], argTypes := #[t, t] }) (sv xv : Value) (hs : a.eval s = sv) (hx : a.eval x = xv) {v' : Value} {w' : World}
    (hr : (Builtin.append_ #[t, t] o.type #[sv, xv]).run Tryz.prog w = .ok v' w') (h : K (a.put o.dst v') w') : if Region.wanted o (yielded ops a.tmps) = true then Oper.wp Tryz.prog o a w K Q else E := by
  have hw : Region.wanted o (yielded ops a.tmps) = true := by simp [Region.wanted, hgd]
  rw [if_pos hw]
  unfold Oper.wp execOp
  simp only [ho, resolve, invoke, builtin, Sem.run_bind, Sem.run_pure, Result.andThen_ok, List.map_toArray, List.map_cons, List.map_nil, hs, hx, hr]
  exact h
theorem condTx_told {k : Nat} (h : k < 14) : condTx (k : Int) = (condsT.getD k [], 0) := by unfold condTx; rw [if_pos ⟨by omega, by omega⟩]; rfl
theorem cd_two {k : Nat} (h : k < 14) : (cdB k).size ≤ 2 := by
  rcases k14 h with rfl | rfl | rfl | rfl | rfl | rfl | rfl | rfl | rfl | rfl | rfl | rfl | rfl | rfl <;> decide +kernel
theorem nm_size : ∀ k : Nat, k < 40 → (nmB k).size ≤ 100 := by decide +kernel
theorem name_size (op : Int) : (nameI op).1.size ≤ 100 := by
  unfold nameI
  split
  · show (0 : Nat) ≤ 100; omega
  · rename_i h
    have : ¬ (op < 1 ∨ 39 < op) := fun c => h (by unfold shapeI; rw [if_pos c])
    exact nm_size op.toNat (by omega)
theorem name_told {i : In} (h : shapeI i.op ≠ 12) : (nameI i.op).1.data.toList = toldN i := by
  unfold toldN
  rw [if_neg (fun e => h (by rw [e]; decide))]
theorem told_len (i : In) : (toldL i).length ≤ 4 := by
  unfold toldL
  repeat' (first | (simp only [List.length_cons, List.length_nil]; omega) | split)
theorem far_ok {x : Int} (h : i64B x) : u64ok (farS x) := by
  obtain ⟨h0, h1⟩ := h
  unfold u64ok farS
  split <;> omega
theorem good_reg {n : Int} {st : Bool} (h : i64B n) : GoodPo (regO n st) := ⟨by show i64ok 1; unfold i64ok; omega, h, by show i64ok 0; unfold i64ok; omega, by show u64ok 0; unfold u64ok; omega⟩
theorem good_imm {x : Int} (h : i64B x) : GoodPo (immO x) := ⟨by show i64ok 2; unfold i64ok; omega, by show i64ok 0; unfold i64ok; omega, by show i64ok 0; unfold i64ok; omega, far_ok h⟩
theorem good_mask {x : Int} (h : 0 ≤ x ∧ x < 18446744073709551616) : GoodPo (maskO x) := ⟨by show i64ok 2; unfold i64ok; omega, by show i64ok 0; unfold i64ok; omega, by show i64ok 0; unfold i64ok; omega, by show u64ok x; unfold u64ok; omega⟩
theorem good_mem {n x : Int} (hn : i64B n) (h : i64B x) : GoodPo (memO n x) := ⟨by show i64ok 4; unfold i64ok; omega, hn, by show i64ok 0; unfold i64ok; omega, far_ok h⟩
theorem good_sh {n x : Int} (hn : i64B n) (h : 0 ≤ x ∧ x ≤ 63) : GoodPo (shO n x) := ⟨by show i64ok 7; unfold i64ok; omega, hn, by show i64ok 0; unfold i64ok; omega, by show u64ok x; unfold u64ok; omega⟩
theorem good_cd (c : Nat) : GoodPo (cdO c) := ⟨by show i64ok 3; unfold i64ok; omega, by show i64ok 0; unfold i64ok; omega, by show i64ok 0; unfold i64ok; omega, by show u64ok 0; unfold u64ok; omega⟩
theorem told_good {i : In} (h : InB i) (ha : 0 ≤ i.amount ∧ i.amount ≤ 63) : ∀ o ∈ toldL i, GoodPo o := by
  have d (st : Bool) := good_reg (st := st) h.d
  have n (st : Bool) := good_reg (st := st) h.n
  have m := good_reg (st := false) h.m
  have a := good_reg (st := false) h.a
  have x := good_imm h.imm
  have k := good_mask h.mask
  have mm := good_mem h.n h.imm
  have s := good_sh h.shift ha
  have c := good_cd i.cond.toNat
  intro o ho
  unfold toldL at ho
  repeat' (split at ho)
  all_goals simp only [List.mem_cons, List.not_mem_nil, or_false] at ho
  all_goals
    first
    | (rcases ho with rfl | rfl | rfl | rfl <;> first | exact d _ | exact n _ | exact m | exact a | exact x | exact k | exact mm | exact s | exact c)
    | (rcases ho with rfl | rfl | rfl <;> first | exact d _ | exact n _ | exact m | exact a | exact x | exact k | exact mm | exact s | exact c)
    | (rcases ho with rfl | rfl <;> first | exact d _ | exact n _ | exact m | exact a | exact x | exact k | exact mm | exact s | exact c)
    | (subst ho; first | exact d _ | exact n _ | exact m | exact a | exact x | exact k | exact mm | exact s | exact c)
end Go.Proofs.YthejefldnpeciaaGreatDoor
