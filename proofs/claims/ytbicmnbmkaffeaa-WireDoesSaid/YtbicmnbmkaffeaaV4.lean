/- A range over a function that keeps its state in a variable of its own: the rounds are never left; the iterator of wire.digits. -/
import Derived.Test.YtbicmnbmkaffeaaV3
import Derived.RangeFuncNested
import Derived.RangeFuncBound
import Derived.RangeFuncCalls
import Derived.RangeFuncLeaves
import Derived.Shelf.Abstract
import Derived.Shelf.RegionOpen
import Derived.OwnWalkIn
import Derived.TacticsInMore
import Derived.LoopNIn
import Derived.LoopIn
namespace Go.Proofs.Ytbicmnbmkaffeaa
set_option linter.unusedVariables false
set_option linter.unusedSimpArgs false
open Go.RowKit Go.Shelf
attribute [local go_sem] Oper.semAt_some

/-- A round goes on; it leaves alone what is no cells, and the iterator's own variable. -/
def goesOn {α : Type} (Bv : Nat) (I : List α → World → Prop) (xs : List α) (W : World) : Exit → Act → World → Prop
  | .normal, _, W' => KeepsOthers W W' ∧ W'.heap[Bv]? = W.heap[Bv]? ∧ I xs W'
  | _, _, _ => False
/-- What the iterator is told of a round. -/
def Rounds {α : Type} (F : Fence) (m : Nat) (P : Program) (l : Nat) (encs : α → Array Value) (Bv N : Nat) (J : List α → World → Prop) : Prop :=
  ∀ pre x W, J pre W → pre.length < N → YieldAt F m P l (encs x) W fun e W' => e = .returned (.bool true) ∧ J (pre ++ [x]) W' ∧ W'.heap[Bv]? = W.heap[Bv]?

theorem wpIn_rangeFunc_cell {F : Fence} {n : Nat} {P : Program} {α : Type} {g : Operand} {ps : Array Tmp} {assign body : Code} {Q : Exit → Act → World → Prop} {a : Act} {w : World}
    (hro : F.round = none) (h1 : 1 ≤ n) {gf : Nat} {lb : Array Value} (hg : a.eval g = .func (.func gf) #[] lb) (hFg : F.fn gf) (eg : ∀ args w, (callFunc gf args).run P w = .ok (.enter gf args) w)
    {encs : α → Array Value} {S : List α → Prop} {N : Nat} (Bv : Nat) (hBv : Bv < w.heap.size)
    (hseq : ∀ (l : Nat) (J : List α → World → Prop) (W : World), W.heap[Bv]? = w.heap[Bv]? → (∀ pre W v, J pre W → J pre (W.setCell ⟨Bv, 0, none⟩ v)) → Rounds F (n - 1 - 1) P l encs Bv N J → J [] W →
      CallsIn F (n - 1) P gf (#[.func (.yield l) #[] #[]] ++ lb) W fun e W' => (∃ v, e = .returned v) ∧ ∃ xs, S xs ∧ J xs W')
    (hps : ∀ x, (encs x).size = ps.size)
    (I : List α → World → Prop) (hI : OwnFrom w.heap.size I) (hIV : ∀ pre W v, I pre W → I pre (W.setCell ⟨Bv, 0, none⟩ v)) (h0 : I [] w) (a₁ : α → Act)
    (hassign : ∀ (l : Nat) (x : α) (W : World) (K : Act → World → Prop), K (a₁ x) W →
      assign.wpIn (F.inRound l) (n - 1 - 1) P (Exit.then K (fun _ _ _ => False)) { tmps := (ps.zip (encs x)).foldl (fun t (p, v) => t.setIfInBounds p v) a.tmps, defers := [] } W)
    (hbody : ∀ (l : Nat) (pre : List α) (x : α) (W : World), I pre W → pre.length < N → body.wpIn (F.inRound l) (n - 1 - 1) P (goesOn Bv I (pre ++ [x]) W) (a₁ x) W)
    (hdone : ∀ (D : Nat) (xs : List α) (W : World), w.heap.size ≤ D → S xs → I xs W → W.heap[D]? = some (.deferred (some [])) → Q .normal { a with defers := { target := .collected D, args := #[] } :: a.defers } W) :
    (Code.rangeFunc g ps assign body).wpIn F n P Q a w := by
  refine wpIn_rangeFunc fun fn hfn => ?_
  rw [hro]
  -- the record; the two blocks that the statement lays
  obtain ⟨rec, hrec⟩ : ∃ rec : LoopState → Option Code → Loop, rec = fun st pe => { state := st, pending := pe, fn, tmps := a.tmps, params := ps, assign, body, defers := w.heap.size } := ⟨_, rfl⟩
  obtain ⟨W1, hW1⟩ : ∃ W1, (w.alloc (.deferred (some []))).alloc (.loop (rec .ready none)) = W1 := ⟨_, rfl⟩
  have hL1 : W1.heap[w.heap.size + 1]? = some (.loop (rec .ready none)) := by
    have := World.alloc_heap_new (w.alloc (.deferred (some []))) (.loop (rec .ready none))
    rw [World.size_alloc] at this
    rw [← hW1]; exact this
  have hK1 : W1.heap[w.heap.size]? = some (.deferred (some [])) := by
    rw [← hW1]; exact (Below.heap_alloc _ _ _ (by simp)).trans (World.alloc_heap_new w _)
  have hI1 : I [] W1 := by rw [← hW1]; exact hI.alloc _ (hI.alloc _ h0)
  have hV1 : W1.heap[Bv]? = w.heap[Bv]? := by
    rw [← hW1]; exact (Below.heap_alloc _ _ _ (by simp; omega)).trans (Below.heap_alloc w _ _ hBv)
  refine ⟨w.heap.size + 1, [{ target := .collected w.heap.size, args := #[] }], W1, { target := .fn (.func gf) lb, args := #[.func (.yield (w.heap.size + 1)) #[] #[]] }, W1, gf,
    #[.func (.yield (w.heap.size + 1)) #[] #[]] ++ lb, W1, ?_, ?_, ?_, ?_, fun _ => h1, ?_⟩
  · rw [← hW1, hrec]; exact run_enterLoop_outer _ _ _ _ _
  · simp only [resolve, hg]
    simp [go_sem]
  · intro f' hf'; simp [Target.leads] at hf'; subst hf'; exact hFg
  · simp [invoke, go_sem, eg]
  -- the iterator's contract, at the caller's invariant and the two blocks
  refine (hseq (w.heap.size + 1) (fun pre W => I pre W ∧ W.heap[w.heap.size + 1]? = some (.loop (rec .ready none)) ∧ W.heap[w.heap.size]? = some (.deferred (some []))) W1 hV1
    (fun pre W v h => ⟨hIV pre W v h.1, (Below.heap_setCell W ⟨Bv, 0, none⟩ v (w.heap.size + 1) (by simp; omega)).trans h.2.1, (Below.heap_setCell W ⟨Bv, 0, none⟩ v w.heap.size (by simp; omega)).trans h.2.2⟩)
    ?_ ⟨hI1, hL1, hK1⟩).mono ?_
  · rintro pre x W ⟨hi, hl, hk⟩ hlen
    have hlt : w.heap.size + 1 < W.heap.size := (Array.getElem?_eq_some_iff.1 hl).1
    have hy := run_yield (P := P) (args := encs x) hl (by rw [hrec]; exact hps x)
    rw [hrec] at hy
    refine ⟨fn, _, assign, body, hy, roundIn_of_wpIn hfn (hassign _ x W _ ⟨_, run_beginRound hl (by rw [hrec]), ?_⟩)⟩
    obtain ⟨W2, hW2⟩ : ∃ W2, W.putObj (w.heap.size + 1) (.loop { rec .ready none with state := .busy }) = W2 := ⟨_, rfl⟩
    rw [hW2]
    have hl2 : W2.heap[w.heap.size + 1]? = some (.loop { rec .ready none with state := .busy }) := by rw [← hW2]; exact World.putObj_heap_same hlt
    have hk2 : W2.heap[w.heap.size]? = some (.deferred (some [])) := by rw [← hW2]; exact (World.putObj_heap_other (by omega)).trans hk
    have hv2 : W2.heap[Bv]? = W.heap[Bv]? := by rw [← hW2]; exact World.putObj_heap_other (by omega)
    have hi2 : I pre W2 := by rw [← hW2]; exact hI.putObj _ hi (by omega) hl rfl
    refine wpIn_mono (hbody _ pre x _ hi2 hlen) ?_
    rintro e a3 W3 hp
    cases e with
    | normal =>
      obtain ⟨hk3, hkp3, hi3⟩ := hp
      have hl3 := hk3.same _ _ hl2 rfl
      have hr := run_endRound (P := P) none hl3
      rw [hrec] at hr
      refine ⟨_, _, hr, rfl, ⟨hI.putObj _ hi3 (by omega) hl3 rfl, ?_, (World.putObj_heap_other (by omega)).trans (hk3.same _ _ hk2 rfl)⟩, (World.putObj_heap_other (by omega)).trans (hkp3.trans hv2)⟩
      rw [hrec]
      exact World.putObj_heap_same (Array.getElem?_eq_some_iff.1 hl3).1
    | ret => exact hp.elim
    | exit id => exact hp.elim
    | goto t => exact hp.elim
    | panic ch => exact hp.elim
    | outgrown => exact hp.elim
  · rintro e W2 ⟨⟨v, rfl⟩, xs, hS, hi, hl, hk⟩
    have hr := run_endLoop (P := P) hl (by rw [hrec]; simp)
    rw [hrec] at hr
    exact ⟨none, _, hr, hdone _ xs _ (Nat.le_refl _) hS (hI.putObj _ hi (by omega) hl rfl) ((World.putObj_heap_other (by omega)).trans hk)⟩

/-! ### wire.digits -/
def encB (c : UInt8) : Array Value := #[.int .u8 c.toNat]

theorem cell_blk {w : World} {b : Nat} {v : Value} {T : TypeId} (hb : w.heap[b]? = some (.cells #[v] T (0, 0))) : w.cell? ⟨b, 0, none⟩ = some v ∧ w.frozen? ⟨b, 0, none⟩ = false := by
  constructor
  · simp [World.cell?, hb]
  · simp [World.frozen?, hb]
theorem set_blk {w : World} {b : Nat} {v x : Value} {T : TypeId} (hb : w.heap[b]? = some (.cells #[v] T (0, 0))) : (w.setCell ⟨b, 0, none⟩ x).heap[b]? = some (.cells #[x] T (0, 0)) := by
  simp [World.setCell, Array.getElem?_modify, hb]
def restOf (Bv : Nat) (w : World) : Nat := match w.cell? ⟨Bv, 0, none⟩ with
  | some (.int _ n) => n.toNat
  | _ => 0
theorem restOf_eq {Bv u : Nat} {w : World} {T : TypeId} {k : IntKind} (hb : w.heap[Bv]? = some (.cells #[.int k (u : Int)] T (0, 0))) : restOf Bv w = u := by
  unfold restOf; rw [(cell_blk hb).1]; simp

set_option maxRecDepth 100000 in
set_option maxHeartbeats 1000000 in
theorem digits1_in (F : Fence) (n : Nat) (hf : F.fn 44) (hro : F.round = none) (hn : 1 ≤ n) (l Bv v : Nat) (hv : v < 18446744073709551616) (J : List UInt8 → World → Prop)
    (hJ : ∀ pre W x, J pre W → J pre (W.setCell ⟨Bv, 0, none⟩ x)) (hY : Rounds F (n - 1) Try.prog l encB Bv (putL v).length J)
    (W : World) (hB : W.heap[Bv]? = some (.cells #[.int .u64 v] 22 (0, 0))) (h0 : J [] W) :
    CallsIn F n Try.prog 44 #[.func (.yield l) #[] #[], .pointer (some ⟨Bv, 0, none⟩)] W fun e W' => (∃ x, e = .returned x) ∧ ∃ xs, xs = putL v ∧ J xs W' := by
  have HV := Lib.hid hv
  have HB0 := Lib.hid hB
  clear hB hv
  refine callsIn_of_wp Try.func44 rfl hf ?_ hro
  simp only [Try.ntmps44, List.size_toArray, List.length_cons, List.length_nil, Nat.reduceAdd, Nat.reduceSub, Array.replicate_succ, Array.replicate_zero, List.push_toArray, List.append_toArray, List.nil_append, List.cons_append]
  gi_wp2
  gi_loopw [3] (fun _ wr => ∃ (m u : Nat) (pre : List UInt8), putL v = pre ++ putF (m + 1) u ∧ u < 128 ^ (m + 1) ∧ u ≤ v ∧ wr.heap[Bv]? = some (.cells #[.int .u64 (u : Int)] 22 (0, 0)) ∧ J pre wr)
    (fun _ wr => restOf Bv wr)
  case atStart => exact ⟨9, v, [], rfl, Nat.lt_of_lt_of_le HV.out (by decide), Nat.le_refl _, HB0.out, h0⟩
  case round =>
    obtain ⟨m, u, pre, hp, hu, huv, hb, hj⟩ := hrel
    have HUV := Lib.hid huv
    obtain ⟨hc, hfz⟩ := cell_blk hb
    have HR := Lib.hid (restOf_eq hb)
    have HBB := Lib.hid hb
    have hum : u < 18446744073709551616 := by have := HV.out; omega
    clear hb huv
    by_cases c : u < 128
    · obtain ⟨fn, tmps, assign, body, hy, hR⟩ := hY pre (UInt8.ofNat u) wr hj (by rw [hp, putF_small c]; simp)
      have HP : Hid (pre ++ [UInt8.ofNat u] = putL v) := Lib.hid (by rw [hp, putF_small c])
      clear hp hu hY
      have hy2 : (Instr.yield l #[.int .u8 (u : Int)]).run Try.prog wr = .ok (.round l fn tmps assign body) wr := by
        rw [← hy]; unfold encB; rw [small_nat c]
      clear hy
      gi_wp2
      refine hR.mono ?_
      rintro e W3 ⟨rfl, hJ3, hk3⟩
      gi_wp2
      go_end0
      exact ⟨⟨_, rfl⟩, _, HP.out, hJ3⟩
    · obtain ⟨m, rfl⟩ : ∃ m', m = m' + 1 := by
        cases m with
        | zero => exact absurd (by simpa using hu) c
        | succ m => exact ⟨m, rfl⟩
      have c2 : 128 ≤ u := by omega
      clear c
      obtain ⟨fn, tmps, assign, body, hy, hR⟩ := hY pre (UInt8.ofNat (u % 128 + 128)) wr hj (by rw [hp, putF_big c2]; simp)
      have HP : Hid (putL v = (pre ++ [UInt8.ofNat (u % 128 + 128)]) ++ putF (m + 1) (u / 128)) := Lib.hid (by rw [hp, putF_big c2]; simp)
      have HQ : Hid (u / 128 < 128 ^ (m + 1)) := Lib.hid (Nat.div_lt_of_lt_mul (by rw [pow_s] at hu; exact hu))
      have HLE : Hid (u / 128 ≤ v) := Lib.hid (Nat.le_trans (Nat.div_le_self _ _) HUV.out)
      clear hp hu
      have hy2 : (Instr.yield l #[.int .u8 ((u : Int) % 128 + 128)]).run Try.prog wr = .ok (.round l fn tmps assign body) wr := by
        rw [← hy]; unfold encB; rw [big_nat]; rfl
      clear hy
      gi_wp2
      refine hR.mono ?_
      rintro e W3 ⟨rfl, hJ3, hk3⟩
      have hb3 := Lib.hid (hk3.trans HBB.out)
      have HK := Lib.hid hk3
      clear hk3
      obtain ⟨hc3, hf3⟩ := cell_blk hb3.out
      gi_wp2
      go_roundw
      case rel => exact ⟨m, u / 128, _, HP.out, HQ.out, HLE.out, set_blk hb3.out, hJ _ _ _ hJ3⟩
      case measure =>
        show restOf Bv (W3.setCell ⟨Bv, 0, none⟩ (.int .u64 ((u / 128 : Nat) : Int))) < _
        rw [restOf_eq (set_blk hb3.out), HR.out]; omega
end Go.Proofs.Ytbicmnbmkaffeaa
