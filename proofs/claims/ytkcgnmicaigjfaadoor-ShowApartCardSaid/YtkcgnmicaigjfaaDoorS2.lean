/- append of a slice that reads as a list onto a row of the call's own. -/
import Derived.Test.YtkcgnmicaigjfaaDoorS
namespace Go.Proofs.YtkcgnmicaigjfaaDoor
set_option linter.unusedVariables false
set_option linter.unusedSimpArgs false
open Go.RowKit
variable {α : Type} {enc : α → List Value} {sz : Nat}
/-- append of a slice that reads as a list onto a row of the call's own, nil or not. -/
theorem append_SL {P : Program} {w : World} {ops : Array Oper} {rest : List Oper} {o : Oper} {act : Act} {Q : Exit → Act → World → Prop} (hgd : o.guard = none) (s x : Operand) (t : TypeId)
    (ho : o.op = .call { callee := .builtin .append, args := #[s, x], argTypes := #[t, t] })
    (base : Nat) (e : TypeId) (i : TypeInfo) (z : Value) (bytes : Nat) (ht : P.underlying t = some (.slice e)) (hi : P.info? e = some i) (hz : i.zero = some z) (hsize : i.size = sz) (hby : i.bytes = bytes) (hzs : z.cells.size = sz) (hsz : 0 < sz)
    (henc : ∀ x, (enc x).length = sz) (hone : ∀ x, ∀ u ∈ enc x, u.oneCell' = true)
    (v : Value) (n : Nat) (xs : List α) (hs : act.eval s = v) (hown : w.ownsRow base e sz v n (xs.flatMap enc))
    (a : Option Addr) (m c : Nat) (ys : List α) (hx : act.eval x = .slice a m c) (hsl : SL enc sz w w.heap.size a m ys) (hnil : a = none → m = 0 ∧ c = 0)
    (h63 : n + m ≤ maxLen) (hbytes : (n + m) * bytes ≤ 140737488355328) (hbase : base ≤ w.heap.size)
    (h : ∀ v' w', w'.ownsRow base e sz v' (n + m) ((xs ++ ys).flatMap enc) → Below base w w' → w.grownBy w' v.ownBlock → wpList P ops Q rest (act.put o.dst v') w') : wpList P ops Q (o :: rest) act w := by
  rcases a with _ | ad
  · obtain ⟨rfl, rfl⟩ := hnil rfl
    have hy : ys = [] := by have := hsl.len; cases ys with | nil => rfl | cons => simp at this
    subst hy
    refine wpList_append_own_none hgd s x t ho base e i sz ht hi v n _ hs hown hx ?_
    exact h v w (by simpa using hown) (Below.refl _ _) (World.grownBy.refl _ _)
  · refine wpList_append_own (w := w) hgd s x t ho base e i z sz bytes ht hi hz hsize hby hzs hsz v n _ hs hown ad m c (ys.flatMap enc) hx (by rw [flat_len henc, hsl.len]) (hsl.news henc hsz) ?_ h63 hbytes hbase ?_
    · intro u hu
      obtain ⟨y, _, hy⟩ := List.mem_flatMap.1 hu
      exact hone y u hy
    · intro v' w' ho' hg' _
      exact h v' w' (by rw [List.flatMap_append]; exact ho') ((Below.refl _ _).grown hg' hbase (fun k hk => (hown.lt k hk).1)) hg'
end Go.Proofs.YtkcgnmicaigjfaaDoor
