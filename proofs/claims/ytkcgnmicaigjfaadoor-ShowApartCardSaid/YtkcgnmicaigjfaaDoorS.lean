/- Slices as lists: what the cells of a slice hold, kept over whatever is laid above; no function of the program in sight. -/
import Derived.Test.YtkcgnmicaigjfaaDoorRows
import Derived.WalkKit
import Derived.WalkSpells
import Derived.WalkLawsBesides
import Derived.Lib.Hide
import Derived.OpenShut
import Derived.Laws.AppendOwnNone
import Derived.Deep.Slices
import Derived.Deep.Fields
import Derived.ChangeSame
namespace Go.Proofs.YtkcgnmicaigjfaaDoor
set_option linter.unusedVariables false
set_option linter.unusedSimpArgs false
open Go.ChangeShapes Go.WideShapes Go.Deep Go.RowKit

def Ret (v : Value) (w : World) (e : Ending) (w' : World) : Prop := e = .returned v ∧ w = w'
theorem ret_bool {a b : Bool} {w : World} (h : a = b) : Ret (.bool b) w (.returned (.bool a)) w := ⟨by rw [h], rfl⟩
theorem ret_int {k : IntKind} {a b : Int} {w : World} (h : a = b) : Ret (.int k b) w (.returned (.int k a)) w := ⟨by rw [h], rfl⟩
abbrev two (k l : IntKind) (p : Int × Int) : Value := .tuple #[.int k p.1, .int l p.2]
theorem ret_two {k l : IntKind} {a b : Int} {p : Int × Int} {w : World} (h : p = (a, b)) : Ret (two k l p) w (.returned (.tuple #[.int k a, .int l b])) w := by subst h; exact ⟨rfl, rfl⟩
def RetB (v : Value) (w : World) (e : Ending) (w' : World) : Prop := e = .returned v ∧ Below w.heap.size w w'
theorem retB_bool {a b : Bool} {w w' : World} (h : a = b) (hb : Below w.heap.size w w') : RetB (.bool b) w (.returned (.bool a)) w' := ⟨by rw [h], hb⟩
def RetD (v : Value) (w : World) (e : Ending) (w' : World) : Prop := e = .returned v ∧ ∃ n, w' = w.drewN n
theorem retD_bool {a b : Bool} {w : World} (h : a = b) (n : Nat) : RetD (.bool b) w (.returned (.bool a)) (w.drewN n) := by subst h; exact ⟨rfl, n, rfl⟩
theorem retD_int {k : IntKind} {a b : Int} {w : World} (h : a = b) (n : Nat) : RetD (.int k b) w (.returned (.int k a)) (w.drewN n) := by subst h; exact ⟨rfl, n, rfl⟩
theorem retD_two {k l : IntKind} {a b : Int} {p : Int × Int} {w : World} (h : p = (a, b)) (n : Nat) : RetD (two k l p) w (.returned (.tuple #[.int k a, .int l b])) (w.drewN n) := by subst h; exact ⟨rfl, n, rfl⟩
theorem below_refl_drewN (w : World) (n : Nat) : Below w.heap.size w (w.drewN n) := below_drewN (Below.refl _ _) n
theorem after {w a b : World} (h : Below w.heap.size w a) (k : Below a.heap.size a b) : Below w.heap.size w b := h.trans (k.mono h.size)
theorem drop_cons {α : Type} {l : List α} {k : Nat} (h : k < l.length) : l.drop k = l[k] :: l.drop (k + 1) := List.drop_eq_getElem_cons h

theorem cell_lt {w : World} {a : Addr} {v : Value} (h : w.cell? a = some v) : a.block < w.heap.size := by
  apply Classical.byContradiction
  intro hn
  have : w.heap[a.block]? = none := by simp; omega
  simp [World.cell?, this] at h
theorem cell_spot {w : World} {a : Addr} {v : Value} (h : w.cell? a = some v) : a.spot = none := by
  cases hs : a.spot with
  | none => rfl
  | some x =>
    unfold World.cell? at h
    split at h
    · simp [hs] at h
    · cases h
theorem add_none (b off n : Nat) : (⟨b, off, none⟩ : Addr).add n = ⟨b, off + n, none⟩ := by
  unfold Addr.add
  by_cases h : n = 0
  · simp [h]
  · simp [h]

/-- The cells of a slice of n elements of sz cells each read as the list's elements; below block B. -/
structure SL {α : Type} (enc : α → List Value) (sz : Nat) (w : World) (B : Nat) (a : Option Addr) (n : Nat) (l : List α) : Prop where
  len : n = l.length
  cells : l ≠ [] → ∃ b off, a = some ⟨b, off, none⟩ ∧ b < B ∧ ∀ k (h : k < l.length) j, j < sz → w.cell? ⟨b, off + k * sz + j, none⟩ = (enc l[k])[j]?

variable {α : Type} {enc : α → List Value} {sz : Nat}
theorem SL.nil (w : World) (B : Nat) (a : Option Addr) : SL enc sz w B a 0 [] := ⟨rfl, fun h => (h rfl).elim⟩
theorem SL.below {w w' : World} {B : Nat} {a : Option Addr} {n : Nat} {l : List α} (h : SL enc sz w B a n l) (hb : Below B w w') : SL enc sz w' B a n l :=
  ⟨h.len, fun hl => by
    obtain ⟨b, off, e, hB, hc⟩ := h.cells hl
    exact ⟨b, off, e, hB, fun k hk j hj => (hb.cell (p := ⟨b, off + k * sz + j, none⟩) hB).trans (hc k hk j hj)⟩⟩
theorem SL.up {w : World} {B : Nat} {a : Option Addr} {n : Nat} {l : List α} (h : SL enc sz w B a n l) {B' : Nat} (hB : B ≤ B') : SL enc sz w B' a n l :=
  ⟨h.len, fun hl => by obtain ⟨b, off, e, h1, h2⟩ := h.cells hl; exact ⟨b, off, e, by omega, h2⟩⟩
theorem SL.next {w w' : World} {a : Option Addr} {n : Nat} {l : List α} (h : SL enc sz w w.heap.size a n l) (hb : Below w.heap.size w w') : SL enc sz w' w'.heap.size a n l :=
  (h.below hb).up hb.size
theorem SL.ne {w : World} {B : Nat} {a : Option Addr} {n : Nat} {l : List α} (h : SL enc sz w B a n l) {k : Nat} (hk : k < n) : l ≠ [] := by
  intro e; have := h.len; rw [e] at this; simp at this; omega

theorem flat_len (henc : ∀ x, (enc x).length = sz) (l : List α) : (l.flatMap enc).length = l.length * sz := by
  induction l with
  | nil => simp
  | cons f r ih => rw [List.flatMap_cons, List.length_append, ih, henc, List.length_cons, Nat.succ_mul]; omega
theorem flat_get (henc : ∀ x, (enc x).length = sz) (l : List α) (k : Nat) (h : k < l.length) (j : Nat) (hj : j < sz) : (l.flatMap enc)[k * sz + j]? = (enc l[k])[j]? := by
  induction l generalizing k with
  | nil => simp at h
  | cons f r ih =>
    rw [List.flatMap_cons]
    cases k with
    | zero => rw [List.getElem?_append_left (by rw [henc]; omega)]; simp
    | succ k =>
      rw [List.getElem?_append_right (by rw [henc, Nat.succ_mul]; omega), henc, show (k + 1) * sz + j - sz = k * sz + j from by rw [Nat.succ_mul]; omega]
      simpa using ih k (by simpa using h)
/-- What append's law asks of the slice that is put behind. -/
theorem SL.news {w : World} {B : Nat} {ad : Addr} {n : Nat} {l : List α} (henc : ∀ x, (enc x).length = sz) (hsz : 0 < sz) (h : SL enc sz w B (some ad) n l) :
    ∀ j u, (l.flatMap enc)[j]? = some u → w.cell? (ad.add j) = some u := by
  intro j u hj
  have hlt : j < l.length * sz := by
    rw [← flat_len henc]
    exact (List.getElem?_eq_some_iff.1 hj).1
  by_cases hl : l = []
  · subst hl; simp at hlt
  obtain ⟨b, off, e, hB, hc⟩ := h.cells hl
  obtain rfl := Option.some.inj e
  have hk : j / sz < l.length := (Nat.div_lt_iff_lt_mul hsz).2 hlt
  have hr : j % sz < sz := Nat.mod_lt _ hsz
  have e1 : j / sz * sz + j % sz = j := by rw [Nat.mul_comm]; exact Nat.div_add_mod j sz
  have g := flat_get henc l (j / sz) hk (j % sz) hr
  have c := hc (j / sz) hk (j % sz) hr
  rw [e1] at g
  rw [add_none, show off + j = off + j / sz * sz + j % sz from by omega, c, ← g]; exact hj
/-- A row of the call's own reads as its list. -/
theorem SL.ofOwns {w : World} {base : Nat} {e : TypeId} {v : Value} {n : Nat} {l : List α} (henc : ∀ x, (enc x).length = sz) (hsz : 0 < sz) (hown : w.ownsRow base e sz v n (l.flatMap enc)) :
    ∃ a c, v = .slice a n c ∧ SL enc sz w w.heap.size a n l ∧ (a = none → n = 0 ∧ c = 0) := by
  have hl : n = l.length := by
    have := hown.1
    rw [flat_len henc] at this
    exact (Nat.eq_of_mul_eq_mul_right hsz this).symm
  rcases hown.2 with ⟨rfl, rfl⟩ | ⟨g, cap, cur, rfl, hbg, hgg, _, _, hcs, htk⟩
  · have : l = [] := by cases l with | nil => rfl | cons => simp at hl
    subst this
    exact ⟨none, 0, rfl, SL.nil _ _ _, fun _ => ⟨rfl, rfl⟩⟩
  · refine ⟨some ⟨g, 0, none⟩, cap, rfl, ⟨hl, fun hne => ⟨g, 0, rfl, ?_, fun k hk j hj => ?_⟩⟩, by simp⟩
    · apply Classical.byContradiction
      intro hn
      have : w.heap[g]? = none := by simp; omega
      rw [this] at hgg; cases hgg
    · have hlt : k * sz + j < n * sz := by
        have : k + 1 ≤ n := by omega
        have := Nat.mul_le_mul_right sz this
        rw [Nat.succ_mul] at this; omega
      have c0 := hown.cellAt (k * sz + j) hlt
      rw [Nat.zero_add, c0, flat_get henc l k hk j hj]
/-- A slice literal, just laid. -/
theorem SL.lit (w : World) (T : TypeId) (l : List α) (henc : ∀ x, (enc x).length = sz) (hsz : 0 < sz) (cs : Array Value) (hcs : cs.toList = l.flatMap enc) (n : Nat) (hn : n = l.length) :
    SL enc sz (w.alloc (.cells cs T)) (w.heap.size + 1) (some ⟨w.heap.size, 0, none⟩) n l := by
  refine ⟨hn, fun _ => ⟨w.heap.size, 0, rfl, by omega, fun k hk j hj => ?_⟩⟩
  have e := (MapKept.heap_alloc w (.cells cs T)).1
  unfold World.cell?
  rw [e]
  simp only [Nat.zero_add]
  rw [← flat_get henc l k hk j hj, ← hcs]
  simp
section
variable {H : Type} {encH : TypeId × Value → H} {P : Program} {w : World} {base : Nat} {spare : Nat → Bool} {held : Bool}
theorem open_slice_fields {t e : TypeId} {fs : Array Field} {fuel : Nat} {cs : List Value} {x : DataW H × List MemPlace} (ht : P.underlying t = some (.slice e)) (he : P.underlying e = some (.struct fs))
    (hone : oneCellFields P fs = true) (hC : P.cellsOf e = fs.size) (h : DataW.trod encH P w base spare held fuel t cs = some x) :
    (cs = [.slice none 0 0] ∧ x = (.nil, [])) ∨
    ∃ (a : Addr) (len cap m : Nat) (D : Nat → DataW H) (Pl : Nat → List MemPlace), cs = [.slice (some a) len cap] ∧ base ≤ a.block ∧ len ≤ cap ∧ cap ≤ maxLen ∧ m = (if spare a.block then cap else len) ∧
      x = (.slice ((List.range len).map D) ((List.range (m - len)).map fun j => D (len + j)), MemPlace.row a (m * fs.size) ++ (List.range m).flatMap Pl) ∧
      ∀ i, i < m → ∃ (ys : List (DataW H × List MemPlace)) (n : Nat), D i = .agg (ys.map (·.1)) ∧ Pl i = ys.flatMap (·.2) ∧ ys.length = fs.size ∧
        ∀ (j : Nat) (f : Field), fs[j]? = some f → ∃ (v : Value) (y : DataW H × List MemPlace), w.cell? (a.add (i * fs.size + j)) = some v ∧ ys[j]? = some y ∧ DataW.trod encH P w base spare held n f.type [v] = some y := by
  rcases open_slice ht h with h0 | ⟨a, len, cap, m, n, D, Pl, hcs, hb, hl, hm, hmm, hx, hi⟩
  · exact .inl h0
  · refine .inr ⟨a, len, cap, m, D, Pl, hcs, hb, hl, hm, hmm, by rw [hC] at hx; exact hx, fun i him => ?_⟩
    obtain ⟨cs', hc, ht'⟩ := hi i him
    rw [hC] at hc
    obtain ⟨ys, n', hn', hy, hlen, hyl, hf⟩ := DataW.trod_struct he ht'
    obtain ⟨_, hcl, hat⟩ := World.cells?_some hc
    simp only [Prod.mk.injEq] at hy
    refine ⟨ys, n', hy.1, hy.2, hyl, fun j f hj => ?_⟩
    obtain ⟨ho, hk⟩ := hone_of hone j f hj
    have hjl : j < fs.size := (Array.getElem?_eq_some_iff.1 hj).1
    have hcell := hat j hjl
    have hv : cs'[j]? = some (cs'[j]'(by omega)) := List.getElem?_eq_getElem (by omega)
    have h1 := hf j f hj
    rw [ho, hk] at h1
    have hone' : (cs'.drop j).take 1 = [cs'[j]'(by omega)] := by
      rw [List.drop_eq_getElem_cons (by omega)]
      rfl
    rw [hone'] at h1
    have hys : ys[j]? = some (ys[j]'(by omega)) := List.getElem?_eq_getElem (by omega)
    refine ⟨_, _, ?_, hys, h1.trans hys⟩
    rw [← Go.Deep.add_add, hcell, hv]
end
/-- An argument that is a slice of structs of one-cell fields reads as a list, element by element, if each element's cells do. -/
theorem open_SL {H : Type} {encH : TypeId × Value → H} {P : Program} {W : World} {base : Nat} {v : Value} {d : DataW H} {p : List MemPlace} {t e : TypeId} {fs : Array Field} (good : α → Prop) (dummy : α)
    (ht : P.underlying t = some (.slice e)) (he : P.underlying e = some (.struct fs)) (hone : oneCellFields P fs = true) (hC : P.cellsOf e = fs.size) (hfs : fs.size = sz) (h0 : 0 < sz)
    (henc : ∀ x, (enc x).length = sz)
    (hel : ∀ (cell : Nat → Option Value) (m : Nat), (∀ (j : Nat) (f : Field), fs[j]? = some f → ∃ (u : Value) (y : DataW H × List MemPlace), cell j = some u ∧ DataW.trod encH P W 0 (fun _ => true) true m f.type [u] = some y) → ∃ x : α, good x ∧ ∀ j, j < sz → cell j = (enc x)[j]?)
    (hv : Value.okWide P W .any base t v) (h : DataW.Trod encH P W 0 (fun _ => true) true t v d p) :
    ∃ (a : Option Addr) (n c : Nat) (l : List α), v = .slice a n c ∧ n ≤ maxLen ∧ (∀ x ∈ l, good x) ∧ SL enc sz W W.heap.size a n l ∧ (a = none → n = 0 ∧ c = 0) ∧ ∀ R bt : Nat, (∀ el sp, d = .slice el sp → (el.length + sp.length) * bt ≤ R) → n * bt ≤ R := by
  obtain ⟨a0, len, cap, rfl⟩ := okWide_slice ht hv
  obtain ⟨fuel, hf⟩ := h
  rcases open_slice_fields ht he hone hC hf with ⟨hcs, hx⟩ | ⟨a, len', cap', m, D, Pl, hcs, hb, hl, hm, hmm, hx, hi⟩
  · simp only [Value.cells, List.cons.injEq, Value.slice.injEq, and_true] at hcs
    obtain ⟨rfl, rfl, rfl⟩ := hcs
    exact ⟨none, 0, 0, [], rfl, by unfold maxLen; omega, by simp, SL.nil _ _ _, fun _ => ⟨rfl, rfl⟩, by intro R bt _; omega⟩
  · simp only [Value.cells, List.cons.injEq, Value.slice.injEq, and_true] at hcs
    obtain ⟨rfl, rfl, rfl⟩ := hcs
    have hlm : len ≤ m := by split at hmm <;> omega
    have hc : ∀ i, i < len → ∃ x : α, good x ∧ ∀ j, j < sz → W.cell? (a.add (i * sz + j)) = (enc x)[j]? := by
      intro i hi'
      obtain ⟨ys, k, -, -, -, hfs'⟩ := hi i (by omega)
      exact hel (fun j => W.cell? (a.add (i * sz + j))) k (fun j f hj => by obtain ⟨u, y, c1, _, c2⟩ := hfs' j f hj; rw [hfs] at c1; exact ⟨u, y, c1, c2⟩)
    have hall : ∃ g : Nat → α, ∀ i, i < len → good (g i) ∧ ∀ j, j < sz → W.cell? (a.add (i * sz + j)) = (enc (g i))[j]? :=
      ⟨fun i => if h : i < len then Classical.choose (hc i h) else dummy, fun i h => by simp only [h, dite_true]; exact Classical.choose_spec (hc i h)⟩
    obtain ⟨g, hg⟩ := hall
    refine ⟨some a, len, cap, (List.range len).map g, rfl, by omega, ?_, ⟨by simp, ?_⟩, by simp, fun R bt hR => ?_⟩
    rotate_left 2
    · simp only [Prod.mk.injEq] at hx
      have := hR _ _ hx.1
      simp only [List.length_map, List.length_range] at this
      exact Nat.le_trans (Nat.mul_le_mul_right _ (Nat.le_add_right _ _)) this
    · intro f hf
      obtain ⟨i, hi2, rfl⟩ := List.mem_map.1 hf
      exact (hg i (by simpa using hi2)).1
    · intro hne
      have hlen : 0 < len := by
        rcases Nat.eq_zero_or_pos len with h | h
        · subst h; simp at hne
        · exact h
      have h00 := (hg 0 hlen).2 0 h0
      have hsome : ∃ u, W.cell? (a.add (0 * sz + 0)) = some u := by
        rw [h00]; exact ⟨_, List.getElem?_eq_getElem (by rw [henc]; exact h0)⟩
      obtain ⟨u, hu⟩ := hsome
      have ea : a.add (0 * sz + 0) = a := by simp [Addr.add]
      rw [ea] at hu
      have hal : a.block < W.heap.size := cell_lt hu
      obtain ⟨b, off, el⟩ := a
      have hel' : el = none := cell_spot hu
      subst hel'
      refine ⟨b, off, rfl, hal, fun k hk j hj => ?_⟩
      have hk' : k < len := by simpa using hk
      have := (hg k hk').2 j hj
      rw [add_none] at this
      simpa only [Nat.add_assoc, List.getElem_map, List.getElem_range] using this
end Go.Proofs.YtkcgnmicaigjfaaDoor
