/-
  DERIVED. GIVEN WITH THE SEED: THE CARDS: each row of YtbabckomagkjbaaGreatDoorRows.lean that lists a variable, with what it lists TIED to the program's text (the seventh form; the later family's looks); each row that meets fmt, with fmt's text TOLD by the authors' own Lean function (tested against real Go, not proved from fmt's source: count such statements apart). THE CARD IS WHAT COUNTS. Prove the row's statement (the work); the ties are given (YtbabckomagkjbaaGreatDoorTie.lean); close each card by the builder's one call (the guide's Derived/Test/ToyasCard.lean, 'card_holds'). Laid BY PROGRAM, IN A SANDBOX (cutbox-door.mjs). By AI agents, Wed Nov 11 2026. No macro, syntax, notation, axiom, sorry.
-/
import Derived.Test.YtbabckomagkjbaaGreatDoorRows
import GoSem.ClaimSeven
namespace Go.Proofs.YtbabckomagkjbaaGreatDoor
namespace Rows

/-- THE TIED CARD OF 'cleatlaw21.GraphReach'. -/
def graphReachCard : Claim7 := { stood := { row := graphReachRow, standIns := [], harness := (true, "1f2f4a73246383b688bacffdb6b3f6277ce1fa6e4ac9e30ac627a45208ef7299"), looks := false }, kinds := [], alts := [], laidByText := true, laidKinds := [.data, .data, .data, .data, .data, .data, .data, .data], laidTests := true, laidLooks := .later }
def GraphReachCardSaid : Prop := Claim7.holds Tryz.pinned (.plain (OpenSpec.ofChange graphReachSpec)) graphReachCard

/-- THE TIED CARD OF 'cleatlaw22.FoldDoes'. -/
def foldDoesCard : Claim7 := { stood := { row := foldDoesRow, standIns := [], harness := (true, "1f2f4a73246383b688bacffdb6b3f6277ce1fa6e4ac9e30ac627a45208ef7299"), looks := false }, kinds := [], alts := [], laidByText := true, laidKinds := [.data, .data, .data, .data, .data, .data, .data, .data], laidTests := true, laidLooks := .later }
def FoldDoesCardSaid : Prop := Claim7.holds Tryz.pinned (.plain (OpenSpec.ofChange foldDoesSpec)) foldDoesCard

/-- THE TIED CARD OF 'cleatlaw23.ShrinkDoes'. -/
def shrinkDoesCard : Claim7 := { stood := { row := shrinkDoesRow, standIns := [], harness := (true, "1f2f4a73246383b688bacffdb6b3f6277ce1fa6e4ac9e30ac627a45208ef7299"), looks := false }, kinds := [], alts := [], laidByText := true, laidKinds := [.data, .data, .data, .data, .data, .data, .data, .data], laidTests := true, laidLooks := .later }
def ShrinkDoesCardSaid : Prop := Claim7.holds Tryz.pinned (.plain (OpenSpec.ofChange shrinkDoesSpec)) shrinkDoesCard

/-- THE TIED CARD OF 'cleatlaw23.ShrinkTells'. -/
def shrinkTellsCard : Claim7 := { stood := { row := shrinkTellsRow, standIns := [], harness := (true, "1f2f4a73246383b688bacffdb6b3f6277ce1fa6e4ac9e30ac627a45208ef7299"), looks := false }, kinds := [], alts := [], laidByText := true, laidKinds := [.data, .data, .data, .data, .data, .data, .data, .data], laidTests := true, laidLooks := .later }
def ShrinkTellsCardSaid : Prop := Claim7.holds Tryz.pinned (.plain (OpenSpec.ofChange shrinkTellsSpec)) shrinkTellsCard

/-- THE TIED CARD OF 'cleatlaw23.ShrinkLeft'. -/
def shrinkLeftCard : Claim7 := { stood := { row := shrinkLeftRow, standIns := [], harness := (true, "1f2f4a73246383b688bacffdb6b3f6277ce1fa6e4ac9e30ac627a45208ef7299"), looks := false }, kinds := [], alts := [], laidByText := true, laidKinds := [.data, .data, .data, .data, .data, .data, .data, .data], laidTests := true, laidLooks := .later }
def ShrinkLeftCardSaid : Prop := Claim7.holds Tryz.pinned (.plain (OpenSpec.ofChange shrinkLeftSpec)) shrinkLeftCard

/-- THE SECOND FORM's CARD OF 'cleatlaw21.GraphReach'. -/
def graphReachUptoCard : Claim7 := { stood := { row := graphReachUptoRow, standIns := [], harness := (true, "1f2f4a73246383b688bacffdb6b3f6277ce1fa6e4ac9e30ac627a45208ef7299"), looks := false }, kinds := [], alts := [], laidByText := true, laidKinds := [.data, .data, .data, .data, .data, .data, .data, .data], laidTests := true, laidLooks := .later }
def GraphReachUptoCardSaid : Prop := Claim7.holds Tryz.pinned (.plain (OpenSpec.upto graphReachSpec)) graphReachUptoCard

/-- THE SECOND FORM's CARD OF 'cleatlaw22.FoldDoes'. -/
def foldDoesUptoCard : Claim7 := { stood := { row := foldDoesUptoRow, standIns := [], harness := (true, "1f2f4a73246383b688bacffdb6b3f6277ce1fa6e4ac9e30ac627a45208ef7299"), looks := false }, kinds := [], alts := [], laidByText := true, laidKinds := [.data, .data, .data, .data, .data, .data, .data, .data], laidTests := true, laidLooks := .later }
def FoldDoesUptoCardSaid : Prop := Claim7.holds Tryz.pinned (.plain (OpenSpec.upto foldDoesSpec)) foldDoesUptoCard

/-- THE SECOND FORM's CARD OF 'cleatlaw23.ShrinkDoes'. -/
def shrinkDoesUptoCard : Claim7 := { stood := { row := shrinkDoesUptoRow, standIns := [], harness := (true, "1f2f4a73246383b688bacffdb6b3f6277ce1fa6e4ac9e30ac627a45208ef7299"), looks := false }, kinds := [], alts := [], laidByText := true, laidKinds := [.data, .data, .data, .data, .data, .data, .data, .data], laidTests := true, laidLooks := .later }
def ShrinkDoesUptoCardSaid : Prop := Claim7.holds Tryz.pinned (.plain (OpenSpec.upto shrinkDoesSpec)) shrinkDoesUptoCard

/-- THE SECOND FORM's CARD OF 'cleatlaw23.ShrinkTells'. -/
def shrinkTellsUptoCard : Claim7 := { stood := { row := shrinkTellsUptoRow, standIns := [], harness := (true, "1f2f4a73246383b688bacffdb6b3f6277ce1fa6e4ac9e30ac627a45208ef7299"), looks := false }, kinds := [], alts := [], laidByText := true, laidKinds := [.data, .data, .data, .data, .data, .data, .data, .data], laidTests := true, laidLooks := .later }
def ShrinkTellsUptoCardSaid : Prop := Claim7.holds Tryz.pinned (.plain (OpenSpec.upto shrinkTellsSpec)) shrinkTellsUptoCard

/-- THE SECOND FORM's CARD OF 'cleatlaw23.ShrinkLeft'. -/
def shrinkLeftUptoCard : Claim7 := { stood := { row := shrinkLeftUptoRow, standIns := [], harness := (true, "1f2f4a73246383b688bacffdb6b3f6277ce1fa6e4ac9e30ac627a45208ef7299"), looks := false }, kinds := [], alts := [], laidByText := true, laidKinds := [.data, .data, .data, .data, .data, .data, .data, .data], laidTests := true, laidLooks := .later }
def ShrinkLeftUptoCardSaid : Prop := Claim7.holds Tryz.pinned (.plain (OpenSpec.upto shrinkLeftSpec)) shrinkLeftUptoCard
end Rows
end Go.Proofs.YtbabckomagkjbaaGreatDoor
