/- show: any method; what the operands of a shape are written by. -/
import Derived.Test.YtkcgnmicaigjfaaDoorwG
import Derived.Test.YtkcgnmicaigjfaaDoorwB
namespace Go.Proofs.YtkcgnmicaigjfaaDoor
set_option linter.unusedVariables false
set_option linter.unusedSimpArgs false
open Go.ChangeShapes Go.WideShapes Go.Deep Go.RowKit

def mthT (K : Nat) (i : In) : List UInt8 :=
  if K = 23 then dT i else if K = 26 then bT i else if K = 28 then mT i else if K = 29 then aT i else if K = 24 then intT i.imm else if K = 27 then maT i else if K = 31 then coT i else if K = 30 then meT i else shNm i.shift ++ 32 :: intT i.amount
def mskip (K : Nat) (i : In) : Bool := decide (K = 25) && decide (i.shift = 0) && decide (i.amount = 0)
def mstep (i : In) (acc : List UInt8 × Nat) (K : Nat) : List UInt8 × Nat := if mskip K i = true then acc else (acc.1 ++ (if acc.2 = 0 then [32] else [44, 32]) ++ mthT K i, acc.2 + 1)
def mths (s : Int) : List Nat :=
  if s = 1 then [23, 24, 25] else if s = 2 then [23, 26, 24, 25] else if s = 3 then [23, 26, 27] else if s = 4 then [23, 26, 28, 25] else if s = 5 then [23, 26, 28, 25] else if s = 6 then [23, 26, 28, 29] else if s = 7 then [23, 30] else if s = 8 then [23, 30] else if s = 9 then [23, 24] else if s = 10 then [23, 24] else if s = 11 then [24] else if s = 12 then [24] else if s = 13 then [26] else if s = 14 then [24] else if s = 16 then [23, 26, 28, 31] else []
def mAll : List Nat := [23, 26, 28, 29, 24, 27, 31, 30, 25]
theorem shift_ok {i : In} (h : isI i = true) : 0 ≤ i.shift ∧ i.shift ≤ 3 := by
  obtain ⟨-, wi, -, -, -, -, ki⟩ := isI_parts h
  by_cases h4 : shapeI i.op = 4
  · rw [h4] at ki
    simp only [numI, Int.reduceEq, reduceIte, Bool.and_eq_true] at ki
    have := within_of ki.1; omega
  · by_cases h5 : shapeI i.op = 5
    · rw [h5] at ki
      simp only [numI, Int.reduceEq, reduceIte, Bool.and_eq_true] at ki
      have := within_of ki.1; omega
    · have z : pick (shapeI i.op == 4 || shapeI i.op == 5) i.shift = i.shift := congrArg In.shift wi
      rw [show (shapeI i.op == 4 || shapeI i.op == 5) = false by simp [h4, h5]] at z
      have z2 : (0 : Int) = i.shift := z
      omega
theorem mthT_len {i : In} (hi : InB i) (K : Nat) : (mthT K i).length ≤ 100 := by
  have a1 := rT_len i.d (dSt i)
  have a2 := rT_len i.n (nSt i)
  have a3 := rT_len i.m false
  have a4 := rT_len i.a false
  have a5 := intT_len hi.imm
  have a6 := maT_len hi
  have a7 := coT_len i
  have a8 := intT_len hi.amount
  have a9 := shNm_len i.shift
  unfold mthT
  repeat' split
  all_goals (try unfold dT); (try unfold bT); (try unfold mT); (try unfold aT); (try unfold meT bT); (try simp only [List.length_cons, List.length_append, List.length_nil]); omega
theorem mths_all : ∀ s : Fin 17, (mths (s.val : Int)).all (fun K => mAll.contains K) = true ∧ (mths (s.val : Int)).length ≤ 4 := by decide +kernel
theorem mths_mem {s : Int} (h : 0 ≤ s ∧ s ≤ 16) : (∀ K ∈ mths s, K ∈ mAll) ∧ (mths s).length ≤ 4 := by
  obtain ⟨k, rfl⟩ := Int.eq_ofNat_of_zero_le h.1
  have := mths_all ⟨k, by omega⟩
  refine ⟨fun K hK => ?_, this.2⟩
  have h1 := List.all_eq_true.1 this.1 K hK
  simpa using h1
/-- What has been written when all methods have written. -/
theorem run_pieces (i : In) (H : List UInt8) : ((mths (shapeI i.op)).foldl (mstep i) (H, 0)).1 = H ++ joinP (piecesI i) := by
  have sb := shapeI_b i.op
  unfold piecesI
  generalize shapeI i.op = s at *
  have hc : s = 0 ∨ s = 1 ∨ s = 2 ∨ s = 3 ∨ s = 4 ∨ s = 5 ∨ s = 6 ∨ s = 7 ∨ s = 8 ∨ s = 9 ∨ s = 10 ∨ s = 11 ∨ s = 12 ∨ s = 13 ∨ s = 14 ∨ s = 15 ∨ s = 16 := by omega
  by_cases hz : i.shift = 0 ∧ i.amount = 0
  · rcases hc with rfl | rfl | rfl | rfl | rfl | rfl | rfl | rfl | rfl | rfl | rfl | rfl | rfl | rfl | rfl | rfl | rfl <;>
      simp [mths, mstep, mskip, mthT, joinP, joinC, shP, hz.1, hz.2]
  · have hm : ∀ K, mskip K i = false := fun K => by
      unfold mskip
      rw [Bool.and_assoc, Bool.and_eq_false_iff]
      right
      rw [← Bool.decide_and]
      exact decide_eq_false hz
    rcases hc with rfl | rfl | rfl | rfl | rfl | rfl | rfl | rfl | rfl | rfl | rfl | rfl | rfl | rfl | rfl | rfl | rfl <;>
      simp [mths, mstep, hm, mthT, joinP, joinC, shP, hz]
def MQ (B b : Nat) (r : List UInt8 × Nat) (u : World) (e : Ending) (w' : World) : Prop :=
  e = .returned (.tuple #[]) ∧ IsW B b (r.2 : Int) r.1 w' ∧ Below B u w' ∧ OK b u w'
theorem ne_of_lit {K L : Nat} (h : decide (K = L) = false) : K ≠ L := of_decide_eq_false h
theorem mth_any {K : Nat} (hK : K ∈ mAll) (i : In) (hi : InB i) (hI : isI i = true) {B b k : Nat} {bs : List UInt8} (u : World) (hT : TB B u) (hW : IsW B b (k : Int) bs u) (hk : k ≤ 50) (hl : bs.length ≤ 1000) (hB : B ≤ u.heap.size) : Calls Tryd.prog K #[.pointer (some ⟨b, 0, none⟩), inV i] u (MQ B b (mstep i (bs, k) K) u) := by
  simp only [mAll, List.mem_cons, List.not_mem_nil, or_false] at hK
  rcases hK with rfl | rfl | rfl | rfl | rfl | rfl | rfl | rfl | rfl
  · exact wd_any i hi u hT hW hk hl hB
  · exact wn_any i hi u hT hW hk hl hB
  · exact wm_any i hi u hT hW hk hl hB
  · exact wa_any i hi u hT hW hk hl hB
  · exact wimm_any i hi u hT hW hk hl hB
  · exact wmask_any i hi u hT hW hk hl hB
  · exact wcond_any i hi u hT hW hk hl hB
  · exact wmem_any i hi u hT hW hk hl hB
  · by_cases hz : i.shift = 0 ∧ i.amount = 0
    · refine (wshift_no i hz.1 hz.2 b u).mono ?_
      rintro e w' ⟨rfl, hb⟩
      rw [show mstep i (bs, k) 25 = (bs, k) by unfold mstep mskip; rw [if_pos (by simp [hz.1, hz.2])]]
      exact ⟨rfl, hW.below hb, hb.mono hB, OK.of_below hb⟩
    · rw [show mstep i (bs, k) 25 = (bs ++ (if k = 0 then [32] else [44, 32]) ++ (shNm i.shift ++ 32 :: intT i.amount), k + 1) by
        unfold mstep mskip
        rw [if_neg (by simp only [Bool.and_eq_true, decide_eq_true_eq]; exact fun h => hz ⟨h.1.2, h.2⟩)]; rfl]
      by_cases h0 : i.shift = 0
      · exact wshift_a i hi u hT hW hk hl hB (shift_ok hI) h0 (fun h1 => hz ⟨h0, h1⟩)
      · exact wshift_s i hi u hT hW hk hl hB (shift_ok hI) h0
theorem mth_call {K : Nat} (hK : K ∈ mAll) (xs : Array Value) (w : World) : Sem.run Tryd.prog (callFunc K xs) w = .ok (.enter K xs) w := by
  simp only [mAll, List.mem_cons, List.not_mem_nil, or_false] at hK
  rcases hK with rfl | rfl | rfl | rfl | rfl | rfl | rfl | rfl | rfl <;> kernel_rfl
abbrev fnv (K : Nat) : Value := .func (.func K) #[] #[]
def FnP (fs : List Nat) (w : World) (e : Ending) (w' : World) : Prop :=
  ∃ a, e = .returned (.slice a fs.length fs.length) ∧ (fs ≠ [] → ∃ fb, a = some ⟨fb, 0, none⟩ ∧ w'.heap[fb]? = some (.cells (fs.map fnv).toArray 52 (0, 0)) ∧ w.heap.size ≤ fb) ∧ Below w.heap.size w w'
theorem fnp_lit {w : World} {fs : List Nat} (n : Nat) (hn : n = fs.length) (cs : Array Value) (hc : cs = (fs.map fnv).toArray) : FnP fs w (.returned (.slice (some ⟨w.heap.size, 0, none⟩) n n)) (w.alloc (.cells cs 52)) := by
  subst hn hc
  exact ⟨_, rfl, fun _ => ⟨_, rfl, (MapKept.heap_alloc w _).1, Nat.le_refl _⟩, lit_b w _⟩
set_option maxRecDepth 100000 in
set_option maxHeartbeats 4000000 in
theorem operands_any (s : Int) (w : World) (h : 0 ≤ s ∧ s ≤ 16) : Calls Tryd.prog 13 #[.int .i64 s] w (FnP (mths s) w) := by
  have hc : s = 0 ∨ s = 1 ∨ s = 2 ∨ s = 3 ∨ s = 4 ∨ s = 5 ∨ s = 6 ∨ s = 7 ∨ s = 8 ∨ s = 9 ∨ s = 10 ∨ s = 11 ∨ s = 12 ∨ s = 13 ∨ s = 14 ∨ s = 15 ∨ s = 16 := by omega
  clear h
  rcases hc with rfl | rfl | rfl | rfl | rfl | rfl | rfl | rfl | rfl | rfl | rfl | rfl | rfl | rfl | rfl | rfl | rfl
  all_goals
    go_enter Tryd.func13, Tryd.ntmps13
    go_wp2
    go_ret
    first
    | exact ⟨none, rfl, fun h => absurd rfl h, Below.refl _ _⟩
    | exact fnp_lit _ rfl _ rfl
end Go.Proofs.YtkcgnmicaigjfaaDoor
