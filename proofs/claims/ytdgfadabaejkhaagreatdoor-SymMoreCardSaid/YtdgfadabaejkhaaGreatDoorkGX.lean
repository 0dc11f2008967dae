/- Small things that sym's texts share. -/
import Derived.Test.YtdgfadabaejkhaaGreatDoorkSS
import Derived.Test.YtdgfadabaejkhaaGreatDoorkXE
import Derived.Laws.IdiomRangeMap
import Derived.Laws.EntriesVeiled
import Derived.Deep.AppendLies
namespace Go.Proofs.YtdgfadabaejkhaaGreatDoor
set_option linter.unusedVariables false
set_option linter.unusedSimpArgs false
open Go.RowKit
open Go.ChangeShapes Go.WideShapes Go.Deep Go.RowKit
theorem rb_new (w : World) (A : Array Value) (T : TypeId) : RB (w.alloc (.cells A T)) w.heap.size A T := (MapKept.heap_alloc w _).1
theorem lit_below (u : World) (o : Obj) : Below u.heap.size u (u.alloc o) := (Below.refl _ _).alloc (Nat.le_refl _) _
theorem zeroPlace (w : World) : (zeroValue 46).run Tryz.prog w = .ok (.agg #[.int .i64 0, .int .i64 0, .int .i64 0]) w := by kernel_rfl
end Go.Proofs.YtdgfadabaejkhaaGreatDoor
