/- The law PoolSame. -/
import Derived.Test.YtbicmnbmkaffeaaPQE
import Derived.Test.YtbicmnbmkaffeaaPQF
import Derived.Test.YtbicmnbmkaffeaaPQG
import Derived.Test.YtbicmnbmkaffeaaPQH
namespace Go.Proofs.Ytbicmnbmkaffeaa
set_option linter.unusedVariables false
set_option linter.unusedSimpArgs false
open Go.ChangeShapes Go.WideShapes Go.Deep Go.RowKit

theorem PoolSame_walk (m : Nd) (hm : GoodN m) (n : Nd) (hn : GoodN n) (w : World) : Calls Try.prog 3 #[ndV m, ndV n] w (RetB (.bool true) w) := by
  by_cases hl : 100 < m.sym.size ∨ 100 < n.sym.size
  · exact same_long m n w hl hm.sym hn.sym
  have z1 : ¬ 100 < m.sym.size := fun h => hl (.inl h)
  have z2 : ¬ 100 < n.sym.size := fun h => hl (.inr h)
  have z3 : m.sym.size ≤ 9223372036854775807 := hm.sym
  have z4 : n.sym.size ≤ 9223372036854775807 := hn.sym
  have r1 : ofL m = ((ofL m).1, (ofL m).2) := rfl
  have r2 : ofL n = ((ofL n).1, (ofL n).2) := rfl
  have p1 := fun w base p (h : PS w base p []) => put_first h m hm
  by_cases h1 : (ofL m).2 = 0
  · by_cases h2 : (ofL n).2 = 0
    · rw [h1] at r1
      rw [h2] at r2
      have q1 : ∀ w base p, PS w base p [] → Calls Try.prog 13 #[.pointer (some ⟨p, 0, none⟩), ndV m] w (PutP base p [(ofL m).1] (0, 0) w) := fun w base p h => by
        have := p1 w base p h
        rwa [if_pos h1, h1] at this
      by_cases he : (ofL m).1 = (ofL n).1
      · refine same_same m n hm hn w z1 z2 z3 z4 (ofL m).1 r1 (by rw [he]; exact r2) q1 fun w base p h => ?_
        rcases put_second (ofL_good hm) h n hn h2 with ⟨-, hc⟩ | ⟨hne, -⟩
        · exact hc
        · exact absurd he hne
      · refine same_diff m n hm hn w z1 z2 z3 z4 (ofL m).1 (ofL n).1 he r1 r2 q1 fun w base p h => ?_
        rcases put_second (ofL_good hm) h n hn h2 with ⟨hc, -⟩ | ⟨-, hc⟩
        · exact absurd hc he
        · exact hc
    · refine same_bad m n hm hn w z1 z2 z3 z4 _ _ _ _ [(ofL m).1] [(ofL m).1] r1 r2 (.inr h2) (fun w base p h => ?_) (fun w base p h => Put_bad h n hn h2)
      have := p1 w base p h
      rwa [if_pos h1] at this
  · refine same_bad m n hm hn w z1 z2 z3 z4 _ _ _ _ [] (if (ofL n).2 = 0 then [(ofL n).1] else []) r1 r2 (.inl h1) (fun w base p h => ?_) (fun w base p h => put_first h n hn)
    have := p1 w base p h
    rwa [if_neg h1] at this
end Go.Proofs.Ytbicmnbmkaffeaa
