/- The ties of a table of strings and of a table of rows: what the row lists is what the cells hold. Nothing of the program. -/
import Derived.Test.YtfnakgipamjdnaaGreatDoorqT
import Derived.Lib.LaidTab
import Derived.ChangeArms

namespace Go.Proofs.YtfnakgipamjdnaaGreatDoor
set_option linter.unusedVariables false
set_option linter.unusedSimpArgs false
def strData {H : Type} (zs : List (List UInt8)) : DataW H := .agg (zs.map fun z => .lit (.string z))
theorem cells_of_strs {H : Type} {enc : TypeId × Value → H} {P : Program} {w : World} {base : Nat} {sp : Nat → Bool} {held : Bool} {fuel : Nat} {t e : TypeId} {n : Nat} {cs : List Value} {zs : List (List UInt8)} {p : List MemPlace}
    (ht : P.underlying t = some (.array n e)) (he : P.underlying e = some .string) (hce : P.cellsOf e = 1) (hct : P.cellsOf t = n)
    (h : DataW.trod enc P w base sp held fuel t cs = some (strData zs, p)) : cs = zs.map fun z => Value.string ⟨z.toArray⟩ := by
  match fuel, h with
  | 0, h => simp [DataW.trod] at h
  | f + 1, h =>
    simp only [DataW.trod, ht, hce, hct, Nat.mul_one] at h
    split at h
    case isFalse => cases h
    case isTrue hl =>
      obtain ⟨xs, hm, hx⟩ := Option.map_eq_some_iff.1 h
      have h1 : xs.map (·.1) = zs.map fun z => (DataW.lit (.string z) : DataW H) := by simpa [strData] using congrArg Prod.fst hx
      have hxl : xs.length = n := by simpa using Lib.mapM_length hm
      have hzl : zs.length = n := by simpa [hxl] using (congrArg List.length h1).symm
      refine List.ext_getElem? fun i => ?_
      by_cases hi : i < n
      · obtain ⟨b, hb, hf⟩ := Lib.mapM_at hm i i (by simp [hi])
        obtain ⟨s, hc, rfl, _⟩ := DataW.trod_string he hf
        have c1 : cs[i]? = some (.string s) := by
          have c0 := congrArg (·[0]?) hc
          simpa [List.getElem?_take, List.getElem?_drop] using c0
        have c2 : (xs.map (·.1))[i]? = some (DataW.lit (.string s.data.toList) : DataW H) := by simp [hb]
        rw [h1, List.getElem?_map, Option.map_eq_some_iff] at c2
        obtain ⟨z, hz, hzz⟩ := c2
        injection hzz with hzz
        injection hzz with hzz
        subst hzz
        rw [c1, List.getElem?_map, hz]
        simp
      · rw [List.getElem?_eq_none (by omega), List.getElem?_eq_none (by simp; omega)]

theorem strIs_of_head {P : Program} {W : World} {name : String} {zs : List (List UInt8)} {rest : List (String × DataW Unit)} {g : Nat} {t e : TypeId} {n : Nat}
    (hg : P.globalNamed name = some g) (hty : (P.globals[g]?).map (·.type) = some t) (ht : P.underlying t = some (.array n e)) (he : P.underlying e = some .string) (hce : P.cellsOf e = 1) (hct : P.cellsOf t = n)
    (h : laidMet P ((name, strData zs) :: rest) W) : StrIs P W name zs := by
  obtain ⟨ps, ⟨g', t', cs, fuel, p, q, hg', ht', hvar, hd, _, _⟩, _⟩ := h
  have e1 := Option.some.inj (hg.symm.trans hg')
  subst e1
  have e2 := Option.some.inj (hty.symm.trans ht')
  subst e2
  rw [StrIs, hvar, ← cells_of_strs ht he hce hct hd]

def rowData {H : Type} (k : IntKind) (zs : List (List Int)) : DataW H := .agg (zs.map fun z => Lib.tabData k z)
theorem rows_eq {α : Type} (m : Nat) : ∀ (rs : List (List α)) (cs : List α), cs.length = rs.length * m → (∀ (i : Nat) (h : i < rs.length), (cs.drop (i * m)).take m = rs[i]) → cs = rs.flatten := by
  intro rs
  induction rs with
  | nil =>
    intro cs h _
    rw [List.length_nil, Nat.zero_mul] at h
    rw [List.eq_nil_of_length_eq_zero h]; rfl
  | cons r rs ih =>
    intro cs hl h
    rw [List.length_cons, Nat.succ_mul] at hl
    have h0 := h 0 (by simp)
    rw [Nat.zero_mul, List.drop_zero, List.getElem_cons_zero] at h0
    have h1 := ih (cs.drop m) (by rw [List.length_drop]; omega) (fun i hi => by
      have := h (i + 1) (by simpa using hi)
      rw [List.getElem_cons_succ] at this
      rw [List.drop_drop, ← this, Nat.succ_mul, Nat.add_comm])
    rw [List.flatten_cons, ← h0, ← h1, List.take_append_drop]

theorem cells_of_rows {H : Type} {enc : TypeId × Value → H} {P : Program} {w : World} {base : Nat} {sp : Nat → Bool} {held : Bool} {fuel : Nat} {t e x : TypeId} {n m : Nat} {k : IntKind} {cs : List Value} {zs : List (List Int)} {p : List MemPlace}
    (ht : P.underlying t = some (.array n e)) (he : P.underlying e = some (.array m x)) (hx : P.underlying x = some (.int k)) (hcx : P.cellsOf x = 1) (hce : P.cellsOf e = m) (hct : P.cellsOf t = n * m)
    (h : DataW.trod enc P w base sp held fuel t cs = some (rowData k zs, p)) : cs = (zs.map fun z => z.map fun x => Value.int k x).flatten := by
  match fuel, h with
  | 0, h => simp [DataW.trod] at h
  | f + 1, h =>
    simp only [DataW.trod, ht, hce, hct] at h
    split at h
    case isFalse => cases h
    case isTrue hl =>
      obtain ⟨xs, hm, hy⟩ := Option.map_eq_some_iff.1 h
      have h1 : xs.map (·.1) = zs.map fun z => (Lib.tabData k z : DataW H) := by simpa [rowData] using congrArg Prod.fst hy
      have hxl : xs.length = n := by simpa using Lib.mapM_length hm
      have hzl : zs.length = n := by simpa [hxl] using (congrArg List.length h1).symm
      refine rows_eq m _ cs (by rw [hl, List.length_map, hzl]) fun i hi => ?_
      rw [List.length_map, hzl] at hi
      obtain ⟨b, hb, hf⟩ := Lib.mapM_at hm i i (by simp [hi])
      have c2 : (xs.map (·.1))[i]? = some b.1 := by simp [hb]
      rw [h1, List.getElem?_map, Option.map_eq_some_iff] at c2
      obtain ⟨z, hz, hzz⟩ := c2
      have hb2 : b = (Lib.tabData k z, b.2) := by rw [hzz]
      rw [hb2] at hf
      have := Lib.cells_of_tab he hx hcx hce hf
      rw [this, List.getElem_map]
      have hzi : zs[i]'(by omega) = z := by
        have := List.getElem?_eq_getElem (l := zs) (i := i) (by omega)
        rw [this] at hz; exact Option.some.inj hz
      rw [hzi]

theorem rowsIs_of_head {P : Program} {W : World} {name : String} {k : IntKind} {zs : List (List Int)} {rest : List (String × DataW Unit)} {g : Nat} {t e x : TypeId} {n m : Nat}
    (hg : P.globalNamed name = some g) (hty : (P.globals[g]?).map (·.type) = some t) (ht : P.underlying t = some (.array n e)) (he : P.underlying e = some (.array m x)) (hx : P.underlying x = some (.int k)) (hcx : P.cellsOf x = 1) (hce : P.cellsOf e = m) (hct : P.cellsOf t = n * m)
    (h : laidMet P ((name, rowData k zs) :: rest) W) : RowsIs P W name k zs := by
  obtain ⟨ps, ⟨g', t', cs, fuel, p, q, hg', ht', hvar, hd, _, _⟩, _⟩ := h
  have e1 := Option.some.inj (hg.symm.trans hg')
  subst e1
  have e2 := Option.some.inj (hty.symm.trans ht')
  subst e2
  rw [RowsIs, hvar, ← cells_of_rows ht he hx hcx hce hct hd]

end Go.Proofs.YtfnakgipamjdnaaGreatDoor
