/- code.fields. code.fields, where a mask is told or a number is packed. code.Encode. -/
import Derived.Test.YtkcgnmicaigjfaaDoorkC7
import Derived.RegionTactic
namespace Go.Proofs.YtkcgnmicaigjfaaDoor
set_option linter.unusedVariables false
set_option linter.unusedSimpArgs false
open Go.RowKit

def cellsF (l : List F3) : List Value := l.flatMap fun f => [.int .i64 f.1, .int .i64 f.2.1, .int .u32 f.2.2]
theorem cellsF_get (l : List F3) (k : Nat) (h : k < l.length) : (cellsF l)[k * 3]? = some (.int .i64 l[k].1) ∧ (cellsF l)[k * 3 + 1]? = some (.int .i64 l[k].2.1) ∧ (cellsF l)[k * 3 + 2]? = some (.int .u32 l[k].2.2) := by
  have g := flat_get (enc := fun f : F3 => [Value.int .i64 f.1, .int .i64 f.2.1, .int .u32 f.2.2]) (sz := 3) (fun _ => rfl) l k h
  exact ⟨(g 0 (by decide)).trans rfl, (g 1 (by decide)).trans rfl, (g 2 (by decide)).trans rfl⟩
/-- A row of fields, just laid. -/
theorem FS.lit (w : World) (T : TypeId) (l : List F3) (hwf : ∀ f ∈ l, 0 ≤ f.2.2 ∧ f.2.2 < 4294967296 ∧ -9223372036854775808 ≤ f.1 ∧ f.1 ≤ 9223372036854775807 ∧ -9223372036854775808 ≤ f.2.1 ∧ f.2.1 ≤ 9223372036854775807)
    (cs : Array Value) (hcs : cs.toList = cellsF l) (B : Nat) (hB : w.heap.size = B) : FS (w.alloc (.cells cs T)) (w.alloc (.cells cs T)).heap.size (some ⟨B, 0, none⟩) l.length l := by
  subst hB
  refine ⟨rfl, hwf, fun _ => ⟨w.heap.size, 0, rfl, by simp, fun k hk => ?_⟩⟩
  have e := (MapKept.heap_alloc w (.cells cs T)).1
  have hc : ∀ j, (w.alloc (.cells cs T)).cell? ⟨w.heap.size, j, none⟩ = (cellsF l)[j]? := by
    intro j
    unfold World.cell?
    rw [e]
    simp only
    rw [← hcs]; simp
  obtain ⟨g0, g1, g2⟩ := cellsF_get l k hk
  refine ⟨?_, ?_, ?_⟩
  · rw [show 0 + k * 3 = k * 3 from by omega, hc]; exact g0
  · rw [show 0 + k * 3 + 1 = k * 3 + 1 from by omega, hc]; exact g1
  · rw [show 0 + k * 3 + 2 = k * 3 + 2 from by omega, hc]; exact g2
/-- A row of fields is returned, made anew. -/
def RetF (l : List F3) (w : World) (e : Ending) (w' : World) : Prop :=
  ∃ a c, e = .returned (.slice a l.length c) ∧ FS w' w'.heap.size a l.length l ∧ Below w.heap.size w w'
theorem wfF {l : List F3} (h1 : okF l) (h2 : ∀ f ∈ l, rightB f.1 f.2.1 = true) : ∀ f ∈ l, 0 ≤ f.2.2 ∧ f.2.2 < 4294967296 ∧ -9223372036854775808 ≤ f.1 ∧ f.1 ≤ 9223372036854775807 ∧ -9223372036854775808 ≤ f.2.1 ∧ f.2.1 ≤ 9223372036854775807 := by
  intro f hf
  have a := h1 f hf
  have b := h2 f hf
  simp only [rightB, decide_eq_true_eq] at b
  have hp := pow32 f.2.1 (by omega)
  omega

theorem bel4 (w : World) (a b c d : Obj) : Below w.heap.size w ((((w.alloc a).alloc b).alloc c).alloc d) :=
  ((((Below.refl w.heap.size w).alloc (Nat.le_refl _) _).alloc (by simp) _).alloc (by simp; omega) _).alloc (by simp; omega) _
theorem bel5 (w : World) (a b c d e : Obj) : Below w.heap.size w (((((w.alloc a).alloc b).alloc c).alloc d).alloc e) := (bel4 w a b c d).alloc (by simp; omega) _
theorem siz4 (w : World) (a b c d : Obj) : ((((w.alloc a).alloc b).alloc c).alloc d).heap.size = w.heap.size + 1 + 1 + 1 + 1 := by simp

theorem cell_new (w : World) (cs : Array Value) (T : TypeId) (j : Nat) : (w.alloc (.cells cs T)).cell? ⟨w.heap.size, j, none⟩ = cs[j]? := by
  have e := (MapKept.heap_alloc w (.cells cs T)).1
  unfold World.cell?
  rw [e]
  rfl
theorem keep2 {w w' : World} {A C D : Obj} {cs : Array Value} {T : TypeId} (hb : Below ((((w.alloc A).alloc (.cells cs T)).alloc C).alloc D).heap.size ((((w.alloc A).alloc (.cells cs T)).alloc C).alloc D) w') (j : Nat) : w'.cell? ⟨w.heap.size + 1, j, none⟩ = cs[j]? := by
  have h1 := cell_new (w.alloc A) cs T j
  rw [World.size_alloc] at h1
  have h2 : Below ((w.alloc A).alloc (.cells cs T)).heap.size ((w.alloc A).alloc (.cells cs T)) ((((w.alloc A).alloc (.cells cs T)).alloc C).alloc D) := ((Below.refl _ _).alloc (Nat.le_refl _) _).alloc (by simp) _
  rw [hb.cell (p := ⟨w.heap.size + 1, j, none⟩) (by simp only [World.size_alloc]; omega), h2.cell (p := ⟨w.heap.size + 1, j, none⟩) (by simp only [World.size_alloc]; omega)]
  exact h1
theorem keep3 {w w' : World} {A C D : Obj} {cs : Array Value} {T : TypeId} (hb : Below ((((w.alloc A).alloc C).alloc (.cells cs T)).alloc D).heap.size ((((w.alloc A).alloc C).alloc (.cells cs T)).alloc D) w') (j : Nat) : w'.cell? ⟨w.heap.size + 1 + 1, j, none⟩ = cs[j]? := by
  have h1 := cell_new ((w.alloc A).alloc C) cs T j
  rw [World.size_alloc, World.size_alloc] at h1
  have h2 : Below (((w.alloc A).alloc C).alloc (.cells cs T)).heap.size (((w.alloc A).alloc C).alloc (.cells cs T)) ((((w.alloc A).alloc C).alloc (.cells cs T)).alloc D) := (Below.refl _ _).alloc (Nat.le_refl _) _
  rw [hb.cell (p := ⟨w.heap.size + 1 + 1, j, none⟩) (by simp only [World.size_alloc]; omega), h2.cell (p := ⟨w.heap.size + 1 + 1, j, none⟩) (by simp only [World.size_alloc]; omega)]
  exact h1

theorem fldS_len (s : Nat) (i : In) : (fldS s i).length ≤ 5 := by unfold fldS; split <;> simp
/-- What Encode tells. -/
def encP (i : In) : Int × Int := if isI i = true then ((encW i : Nat), 0) else (0, 1)

end Go.Proofs.YtkcgnmicaigjfaaDoor
