/- The reference's Encode and Is. -/
import Derived.Test.YtdeigbdcipkaaaaDoorB13
namespace Go.Proofs.YtdeigbdcipkaaaaDoor
set_option linter.unusedVariables false
set_option linter.unusedSimpArgs false
open Go.RowKit

theorem ret_four {p q : Int × Int × Int × Int} {w : World} (h : q = p) : Ret (four p) w (.returned (four q)) w := by subst h; exact ⟨rfl, rfl⟩

theorem isS_enc (v : Nat) (hv : v < 18446744073709551616) : isS v = ((encS v).2.2.2 == 0) := by
  rcases pat_or v hv with ⟨k, r, s, h⟩ | hn
  · rw [h.isS, h.encS]; rfl
  · rw [isS_none hv hn, encS_none hv hn]; rfl
end Go.Proofs.YtdeigbdcipkaaaaDoor
