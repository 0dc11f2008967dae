/- mem: regions as an argument; MemStores. -/
import Derived.Test.YtogigmehclmjcaaMEB
import Derived.Lib.SmallJoins
import Derived.OpenShut
import Derived.WideShapes
import Derived.ChangeSame
namespace Go.Proofs.Ytogigmehclmjcaa
set_option linter.unusedVariables false
set_option linter.unusedSimpArgs false
open Go.ChangeShapes Go.WideShapes Go.Deep Go.RowKit

def FitR (r : Rg) : Prop := r.pos < 18446744073709551616 ∧ r.data.size ≤ maxLen
theorem open_Regions {H : Type} {encH : TypeId × Value → H} {W : World} {base : Nat} {v : Value} {d : DataW H} {p : List MemPlace}
    (hv : Value.okWide Try.prog W .any base 22 v) (h : DataW.Trod encH Try.prog W 0 (fun _ => true) true 22 v d p) :
    ∃ (a : Option Addr) (n c : Nat) (l : List Rg), v = .slice a n c ∧ n ≤ maxLen ∧ (∀ x ∈ l, FitR x) ∧ SL rgC 3 W W.heap.size a n l := by
  obtain ⟨a, n, c, l, h1, h2, h3, h4, -⟩ := open_SL (sz := 3) (enc := rgC) FitR ⟨0, 0, ⟨#[]⟩⟩ Try.underlying22 Try.underlying42 (by kernel_rfl) (by kernel_rfl) rfl (by decide) rgC_len (by
    intro cell m hc
    obtain ⟨v0, y0, c0, t0⟩ := hc 0 _ rfl
    obtain ⟨v1, y1, c1, t1⟩ := hc 1 _ rfl
    obtain ⟨v2, y2, c2, t2⟩ := hc 2 _ rfl
    obtain ⟨x0, e0, -, w0⟩ := DataW.trod_int Try.underlying23 t0
    obtain ⟨x1, e1, -, w1⟩ := DataW.trod_int Try.underlying3 t1
    obtain ⟨x2, e2, -, w2⟩ := DataW.trod_string Try.underlying9 t2
    simp only [List.cons.injEq, and_true] at e0 e1 e2
    subst e0 e1 e2
    have b0 := bounds_u64 w0
    refine ⟨⟨x0.toNat, x1, x2⟩, ⟨by simp only []; omega, w2⟩, fun j hj => ?_⟩
    match j, hj with
    | 0, _ => rw [show (rgC ⟨x0.toNat, x1, x2⟩)[0]? = some (.int .u64 ((x0.toNat : Nat) : Int)) from rfl, Int.toNat_of_nonneg (by omega)]; exact c0
    | 1, _ => exact c1
    | 2, _ => exact c2) hv h
  exact ⟨a, n, c, l, h1, h2, h3, h4⟩
end Go.Proofs.Ytogigmehclmjcaa
