/- The tie of a table of strings: what the row lists is what the cells hold. Nothing of the program. -/
import Derived.Lib.LaidTab
import Derived.ChangeArms
namespace Go.Proofs.YtkcgnmicaigjfaaDoor
set_option linter.unusedVariables false
set_option linter.unusedSimpArgs false

def strData {H : Type} (zs : List (List UInt8)) : DataW H := .agg (zs.map fun z => .lit (.string z))
def StrIs (P : Program) (w : World) (name : String) (zs : List (List UInt8)) : Prop := w.var? P name = some (zs.map fun z => Value.string ⟨z.toArray⟩).toArray

theorem cells_of_strs {H : Type} {enc : TypeId × Value → H} {P : Program} {w : World} {base : Nat} {sp : Nat → Bool} {held : Bool} {fuel : Nat} {t e : TypeId} {n : Nat} {cs : List Value} {zs : List (List UInt8)} {p : List MemPlace}
    (ht : P.underlying t = some (.array n e)) (he : P.underlying e = some .string) (hce : P.cellsOf e = 1) (hct : P.cellsOf t = n)
    (h : DataW.trod enc P w base sp held fuel t cs = some (strData zs, p)) : cs = zs.map fun z => Value.string ⟨z.toArray⟩ := by
  match fuel, h with
  | 0, h => simp [DataW.trod] at h
  | f + 1, h =>
    simp only [DataW.trod, ht, hce, hct, Nat.mul_one] at h
    split at h
    case isFalse => cases h
    case isTrue hl =>
      obtain ⟨xs, hm, hx⟩ := Option.map_eq_some_iff.1 h
      have h1 : xs.map (·.1) = zs.map fun z => (DataW.lit (.string z) : DataW H) := by simpa [strData] using congrArg Prod.fst hx
      have hxl : xs.length = n := by simpa using Lib.mapM_length hm
      have hzl : zs.length = n := by simpa [hxl] using (congrArg List.length h1).symm
      refine List.ext_getElem? fun i => ?_
      by_cases hi : i < n
      · obtain ⟨b, hb, hf⟩ := Lib.mapM_at hm i i (by simp [hi])
        obtain ⟨s, hc, rfl, _⟩ := DataW.trod_string he hf
        have c1 : cs[i]? = some (.string s) := by
          have c0 := congrArg (·[0]?) hc
          simpa [List.getElem?_take, List.getElem?_drop] using c0
        have c2 : (xs.map (·.1))[i]? = some (DataW.lit (.string s.data.toList) : DataW H) := by simp [hb]
        rw [h1, List.getElem?_map, Option.map_eq_some_iff] at c2
        obtain ⟨z, hz, hzz⟩ := c2
        injection hzz with hzz
        injection hzz with hzz
        subst hzz
        rw [c1, List.getElem?_map, hz]
        simp
      · rw [List.getElem?_eq_none (by omega), List.getElem?_eq_none (by simp; omega)]

theorem strIs_of_head {P : Program} {W : World} {name : String} {zs : List (List UInt8)} {rest : List (String × DataW Unit)} {g : Nat} {t e : TypeId} {n : Nat}
    (hg : P.globalNamed name = some g) (hty : (P.globals[g]?).map (·.type) = some t) (ht : P.underlying t = some (.array n e)) (he : P.underlying e = some .string) (hce : P.cellsOf e = 1) (hct : P.cellsOf t = n)
    (h : laidMet P ((name, strData zs) :: rest) W) : StrIs P W name zs := by
  obtain ⟨ps, ⟨g', t', cs, fuel, p, q, hg', ht', hvar, hd, _, _⟩, _⟩ := h
  have e1 := Option.some.inj (hg.symm.trans hg')
  subst e1
  have e2 := Option.some.inj (hty.symm.trans ht')
  subst e2
  rw [StrIs, hvar, ← cells_of_strs ht he hce hct hd]

theorem StrIs.cell {P : Program} {W : World} {name : String} {zs : List (List UInt8)} {g : Nat} (h : StrIs P W name zs) (hg : P.globalNamed name = some g) (i : Nat) (hi : i < zs.length) :
    W.cell? ⟨g, i, none⟩ = some (.string ⟨(zs.getD i []).toArray⟩) := by
  have := World.var?_cell hg h i
  simpa [List.getD, hi] using this
end Go.Proofs.YtkcgnmicaigjfaaDoor
