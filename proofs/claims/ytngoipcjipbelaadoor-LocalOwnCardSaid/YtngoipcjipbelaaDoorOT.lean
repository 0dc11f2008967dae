/- operand: what stands while Parse runs. -/
import Derived.Test.YtngoipcjipbelaaDoorOQ
namespace Go.Proofs.YtngoipcjipbelaaDoor
set_option linter.unusedVariables false
set_option linter.unusedSimpArgs false
open Go.ChangeShapes Go.WideShapes Go.Deep Go.RowKit

theorem hset {w : World} {b o : Nat} {x : Value} {cs : Array Value} {T : TypeId} {fr : Nat × Nat} (hb : w.heap[b]? = some (.cells cs T fr)) : (w.setCell ⟨b, o, none⟩ x).heap[b]? = some (.cells (cs.setIfInBounds o x) T fr) := by
  simp [World.setCell, Array.getElem?_modify, hb]
theorem hother {w : World} {b c o : Nat} {x : Value} (h : c ≠ b) : (w.setCell ⟨b, o, none⟩ x).heap[c]? = w.heap[c]? := Below.heap_setCell _ _ _ _ h
theorem po_len (o : Po) : (poC o).length = 7 := rfl
theorem info_opnd : (Tryd.prog.info? 86).map (fun i => (i.zero, i.size, i.bytes)) = some (some (.agg #[.int .i64 0, .int .i64 0, .bool false, .bool false, .int .u64 0, .string ByteArray.empty, .int .i64 0]), 7, 56) := by kernel_rfl
theorem own_slice {w : World} {B e sz n : Nat} {v : Value} {xs : List Value} (h : w.ownsRow B e sz v n xs) : ∃ a c, v = .slice a n c := by
  rcases h.2 with ⟨hv, h0⟩ | ⟨g, cap, cur, hv, -⟩
  · refine ⟨none, 0, ?_⟩
    subst h0; exact hv
  · exact ⟨_, _, hv⟩
structure PSt (w u : World) (B : Nat) (v : Value) (os : List Po) (l : List Ti) (g : Bool) : Prop where
  r : RR u (B + 2) l g
  b : u.heap[B]? = some (.cells #[v] 44 (0, 0))
  o : u.ownsRow (B + 3) 86 7 v os.length (os.flatMap poC)
  c : u.heap[B + 1]? = some (.cells #[.int .i64 0] 22 (0, 0))
  k : Below w.heap.size w u
  e : B = w.heap.size
  n : os.length + l.length ≤ 1000000
theorem PSt.call {w u u' : World} {B : Nat} {v : Value} {os : List Po} {l l' : List Ti} {g g' : Bool} (h : PSt w u B v os l g) (hR : RR u' (B + 2) l' g') (hK : KP (B + 2) u u') (hl : l'.length ≤ l.length) : PSt w u' B v os l' g' :=
  ⟨hR, (hK.block B (lt_of_block h.b) (fun e => by simp at e)).trans h.b, own_kp (B := 0) (p := B + 2) h.o hK, (hK.block (B + 1) (lt_of_block h.c) (fun e => by simp at e)).trans h.c, KP.to_below h.k hK (by rw [h.e]; omega), h.e, by have := h.n; omega⟩
theorem PSt.next {w u u' : World} {B : Nat} {v : Value} {os : List Po} {l : List Ti} {g : Bool} (h : PSt w u B v os l g) (hb : Below u.heap.size u u') : PSt w u' B v os l g :=
  h.call (h.r.next hb) (KP.of_below hb) (Nat.le_refl _)
theorem PSt.drewN {w u : World} {B : Nat} {v : Value} {os : List Po} {l : List Ti} {g : Bool} (h : PSt w u B v os l g) (n : Nat) : PSt w (u.drewN n) B v os l g := h.next (below_drewN (Below.refl _ _) n)
theorem PSt.facts {w u : World} {B : Nat} {v : Value} {os : List Po} {l : List Ti} {g : Bool} (h : PSt w u B v os l g) :
    u.cell? ⟨B, 0, none⟩ = some v ∧ u.frozen? ⟨B, 0, none⟩ = false ∧ u.cell? ⟨B + 1, 0, none⟩ = some (.int .i64 0) ∧ u.frozen? ⟨B + 1, 0, none⟩ = false ∧ B < u.heap.size ∧ B + 3 ≤ u.heap.size :=
  ⟨by rw [World.cell?, h.b]; rfl, by rw [World.frozen?, h.b]; rfl, by rw [World.cell?, h.c]; rfl, by rw [World.frozen?, h.c]; rfl, lt_of_block h.b, h.r.lt⟩
/-- An operand, appended, and the row laid in its variable. -/
theorem PSt.append {w u w3 : World} {B : Nat} {v v' : Value} {os : List Po} {l : List Ti} {g : Bool} {o : Po} (h : PSt w u B v os l g) (hn : os.length + 1 + l.length ≤ 1000000)
    (hown : w3.ownsRow (B + 3) 86 7 v' (os.length + 1) (os.flatMap poC ++ poC o)) (hgrow : (u.alloc (.cells (poA o) 86)).grownBy w3 v.ownBlock) :
    PSt w (w3.setCell ⟨B, 0, none⟩ v') B v' (os ++ [o]) l g := by
  have hp := h.r.lt
  have hbV : Below (B + 3) u (u.alloc (.cells (poA o) 86)) := (Below.refl (B + 3) u).alloc (by omega) _
  have hbw : Below (B + 3) u w3 := hbV.grown hgrow (by have := hbV.size; omega) (fun j hj => (h.o.lt j hj).1)
  have hB3 : w3.heap[B]? = some (.cells #[v] 44 (0, 0)) := (hbw.block B (by omega)).trans h.b
  have hC3 : w3.heap[B + 1]? = some (.cells #[.int .i64 0] 22 (0, 0)) := (hbw.block (B + 1) (by omega)).trans h.c
  refine ⟨(h.r.below hbw (by omega)).side (by omega) (by omega) _, hset hB3, ?_, (hother (by omega)).trans hC3, ?_, h.e, ?_⟩
  · rw [List.flatMap_append, List.length_append, show ([o] : List Po).flatMap poC = poC o by simp]
    refine hown.kept (KP.step B w3 0 v') ?_
    cases hv : v'.ownBlock with
    | none => exact .inl rfl
    | some g => right; have := (hown.lt g hv).1; simp; omega
  · exact (h.k.trans (hbw.mono (by have := h.e; omega))).setCell (p := ⟨B, 0, none⟩) (by show w.heap.size ≤ B; rw [h.e]; exact Nat.le_refl _) _
  · simp only [List.length_append, List.length_singleton]; exact hn
def ParseP (l : List Ti) (w : World) (e : Ending) (w' : World) : Prop :=
  ∃ a c, e = .returned (.tuple #[.slice a (parseL l).1.length c, .int .i64 (parseL l).2]) ∧ SL poC 7 w' w'.heap.size a (parseL l).1.length (parseL l).1 ∧ ((a = none → (parseL l).1.length = 0 ∧ c = 0) ∧ (parseL l).1.length ≤ c) ∧ Below w.heap.size w w'
theorem ParseP.bad {l : List Ti} {w w' : World} {e : Ending} {er : Int} (h : parseL l = ([], er)) (he : e = .returned (.tuple #[.slice none 0 0, .int .i64 er])) (hb : Below w.heap.size w w') : ParseP l w e w' := by
  unfold ParseP; rw [h]
  exact ⟨none, 0, he, SL.nil _ _ _, ⟨fun _ => ⟨rfl, rfl⟩, Nat.le_refl _⟩, hb⟩
end Go.Proofs.YtngoipcjipbelaaDoor
