/- mem: New's rows: what appending an area leaves. -/
import Derived.Test.YtogigmehclmjcaaME7
import Derived.Deep.RegionLaw
namespace Go.Proofs.Ytogigmehclmjcaa
set_option linter.unusedVariables false
set_option linter.unusedSimpArgs false
open Go.ChangeShapes Go.WideShapes Go.Deep Go.RowKit

/-- A region as it is given. -/
structure Rg where
  pos : Nat
  kind : Int
  data : ByteArray
def rgC (r : Rg) : List Value := [.int .u64 r.pos, .int .i64 r.kind, .string r.data]
theorem rgC_len (r : Rg) : (rgC r).length = 3 := rfl
def GoodR (r : Rg) : Prop := 1 ≤ r.kind ∧ r.kind ≤ 3 ∧ 1 ≤ r.data.size ∧ r.data.size ≤ 65536
theorem sl_rg {w : World} {B : Nat} {a : Option Addr} {n : Nat} {l : List Rg} (h : SL rgC 3 w B a n l) {k : Nat} (hk : k < n) (hl : k < l.length) :
    ∃ b off, a = some ⟨b, off, none⟩ ∧ b < B ∧ w.cell? ⟨b, off + k * 3, none⟩ = some (.int .u64 l[k].pos) ∧ w.cell? ⟨b, off + k * 3 + 1, none⟩ = some (.int .i64 l[k].kind) ∧ w.cell? ⟨b, off + k * 3 + 2, none⟩ = some (.string l[k].data) := by
  obtain ⟨b, off, e, h1, h2⟩ := h.cells (h.ne hk)
  refine ⟨b, off, e, h1, ?_, ?_, ?_⟩
  · exact h2 k hl 0 (by omega)
  · exact h2 k hl 1 (by omega)
  · exact h2 k hl 2 (by omega)
theorem info_area : (Try.prog.info? 51).map (fun i => (i.zero, i.size, i.bytes)) = some (some (.agg #[.int .u64 0, .int .i64 0, .slice none 0 0]), 3, 40) := by kernel_rfl
theorem own_ar {w : World} {base : Nat} {v : Value} {n : Nat} {xs : List Value} (h : w.ownsRow base 51 3 v n xs) {k : Nat} (hk : v.ownBlock = some k) : base ≤ k ∧ ∃ cur, w.heap[k]? = some (.cells cur 51 (0, 0)) := by
  rcases h.2 with ⟨h, -⟩ | ⟨g, cap, cur, e1, e2, e3, -⟩
  · rw [h] at hk; cases hk
  · rw [e1] at hk
    simp only [Value.ownBlock, Option.some.injEq] at hk
    subst hk; exact ⟨e2, cur, e3⟩
theorem ms_end {w2 w3 : World} {base p g cap : Nat} {v : Value} {L : List Ar} {a : Ar} {U : Obj} (h : MS w2 base p L) (hp : w2.heap[p]? = some (.cells #[v] 46 (0, 0))) (hb : AB w2 base a) (hn : a.blk ∉ L.map Ar.blk)
    (hown : w3.ownsRow base 51 3 (.slice (some ⟨g, 0, none⟩) (L.length + 1) cap) (L.length + 1) (L.flatMap arC ++ arC a)) (hg : (w2.alloc U).grownBy w3 v.ownBlock) :
    MS (w3.setCell ⟨p, 0, none⟩ (.slice (some ⟨g, 0, none⟩) (L.length + 1) cap)) base p (L ++ [a]) ∧ Below base w2 (w3.setCell ⟨p, 0, none⟩ (.slice (some ⟨g, 0, none⟩) (L.length + 1) cap)) := by
  have hbase := h.base
  obtain ⟨v', h1, h2, h3, h4, h5⟩ := h
  rw [hp] at h1
  simp only [Option.some.injEq, Obj.cells.injEq, Array.mk.injEq, List.cons.injEq, and_true] at h1
  subst h1
  have hkeep : ∀ (k : Nat) (cs : Array Value) (T : TypeId), T ≠ 51 → w2.heap[k]? = some (.cells cs T (0, 0)) → w3.heap[k]? = some (.cells cs T (0, 0)) := by
    intro k cs T hT hk
    have hkl := lt_of_block hk
    rw [hg.block k (by simp; omega) (fun e => by obtain ⟨-, cur, hc⟩ := own_ar h3 e.symm; rw [hk] at hc; simp at hc; exact hT hc.2), Below.heap_alloc w2 U k hkl]
    exact hk
  have hp3 := hkeep p _ _ (by decide) hp
  have hAB : ∀ b, AB w2 base b → AB (w3.setCell ⟨p, 0, none⟩ (.slice (some ⟨g, 0, none⟩) (L.length + 1) cap)) base b := by
    intro b ⟨q1, q2⟩
    refine ⟨q1, ?_⟩
    rw [Below.heap_setCell _ _ _ _ (fun e => by simp only [] at e; rw [e, hp] at q2; simp at q2)]
    exact hkeep _ _ _ (by decide) q2
  refine ⟨⟨.slice (some ⟨g, 0, none⟩) (L.length + 1) cap, ?_, h2, ?_, fun b hbm => ?_, ?_⟩, ?_⟩
  · unfold World.setCell
    simp [hp3, Array.getElem?_modify]
  · rw [List.flatMap_append, List.length_append, show ([a] : List Ar).flatMap arC = arC a from by simp]
    obtain ⟨k1, k2⟩ := hown
    refine ⟨by simpa using k1, ?_⟩
    rcases k2 with ⟨-, k2⟩ | ⟨g', cap', cur, e1, e2, e3, e4⟩
    · omega
    · refine .inr ⟨g', cap', cur, e1, e2, ?_, e4⟩
      rw [Below.heap_setCell _ _ _ _ (fun e => by simp only [] at e; rw [e, hp3] at e3; simp at e3)]
      exact e3
  · rcases List.mem_append.1 hbm with hb' | hb'
    · exact hAB b (h4 b hb')
    · rw [List.mem_singleton.1 hb']; exact hAB a hb
  · rw [List.map_append, List.nodup_append]
    refine ⟨h5, by simp, fun x hx y hy => ?_⟩
    simp at hy
    subst hy
    intro e; subst e; exact hn hx
  · exact (((Below.refl base w2).alloc hbase U).grown hg (by simp; omega) (fun k hk => (own_ar h3 hk).1)).setCell h2 _
end Go.Proofs.Ytogigmehclmjcaa
