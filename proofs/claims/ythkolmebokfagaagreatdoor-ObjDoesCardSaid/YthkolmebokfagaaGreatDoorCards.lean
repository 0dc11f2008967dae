/-
  DERIVED. GIVEN WITH THE SEED: THE CARDS: each row of YthkolmebokfagaaGreatDoorRows.lean that lists a variable, with what it lists TIED to the program's text (the seventh form; the later family's looks); each row that meets fmt, with fmt's text TOLD by the authors' own Lean function (tested against real Go, not proved from fmt's source: count such statements apart). THE CARD IS WHAT COUNTS. Prove the row's statement (the work); the ties are given (YthkolmebokfagaaGreatDoorTie.lean); close each card by the builder's one call (the guide's Derived/Test/ToyasCard.lean, 'card_holds'). Laid BY PROGRAM, IN A SANDBOX (cutbox-door.mjs). By AI agents, Wed Nov 11 2026. No macro, syntax, notation, axiom, sorry.
-/
import Derived.Test.YthkolmebokfagaaGreatDoorRows
import GoSem.ClaimSeven
namespace Go.Proofs.YthkolmebokfagaaGreatDoor
namespace Rows

/-- THE TIED CARD OF 'cleatlaw19.ObjDoes'. -/
def objDoesCard : Claim7 := { stood := { row := objDoesRow, standIns := [], harness := (true, "e56bd12d192163456bc189f08eb8553d7c813858c4e4863a879ad7678af24fee"), looks := false }, kinds := [], alts := [], laidByText := true, laidKinds := [.data, .data, .data, .data, .data, .data, .data, .data], laidTests := true, laidLooks := .later }
def ObjDoesCardSaid : Prop := Claim7.holds Tryz.pinned (.plain (OpenSpec.ofChange objDoesSpec)) objDoesCard

/-- THE TIED CARD OF 'cleatlaw20.SymDoes'. -/
def symDoesCard : Claim7 := { stood := { row := symDoesRow, standIns := [], harness := (true, "e56bd12d192163456bc189f08eb8553d7c813858c4e4863a879ad7678af24fee"), looks := false }, kinds := [], alts := [], laidByText := true, laidKinds := [.data, .data, .data, .data, .data, .data, .data, .data], laidTests := true, laidLooks := .later }
def SymDoesCardSaid : Prop := Claim7.holds Tryz.pinned (.plain (OpenSpec.ofChange symDoesSpec)) symDoesCard

/-- THE TIED CARD OF 'cleatlaw21.GraphEntry'. -/
def graphEntryCard : Claim7 := { stood := { row := graphEntryRow, standIns := [], harness := (true, "e56bd12d192163456bc189f08eb8553d7c813858c4e4863a879ad7678af24fee"), looks := false }, kinds := [], alts := [], laidByText := true, laidKinds := [.data, .data, .data, .data, .data, .data, .data, .data], laidTests := true, laidLooks := .later }
def GraphEntryCardSaid : Prop := Claim7.holds Tryz.pinned (.plain (OpenSpec.ofChange graphEntrySpec)) graphEntryCard

/-- THE SECOND FORM's CARD OF 'cleatlaw19.ObjDoes'. -/
def objDoesUptoCard : Claim7 := { stood := { row := objDoesUptoRow, standIns := [], harness := (true, "e56bd12d192163456bc189f08eb8553d7c813858c4e4863a879ad7678af24fee"), looks := false }, kinds := [], alts := [], laidByText := true, laidKinds := [.data, .data, .data, .data, .data, .data, .data, .data], laidTests := true, laidLooks := .later }
def ObjDoesUptoCardSaid : Prop := Claim7.holds Tryz.pinned (.plain (OpenSpec.upto objDoesSpec)) objDoesUptoCard

/-- THE SECOND FORM's CARD OF 'cleatlaw20.SymDoes'. -/
def symDoesUptoCard : Claim7 := { stood := { row := symDoesUptoRow, standIns := [], harness := (true, "e56bd12d192163456bc189f08eb8553d7c813858c4e4863a879ad7678af24fee"), looks := false }, kinds := [], alts := [], laidByText := true, laidKinds := [.data, .data, .data, .data, .data, .data, .data, .data], laidTests := true, laidLooks := .later }
def SymDoesUptoCardSaid : Prop := Claim7.holds Tryz.pinned (.plain (OpenSpec.upto symDoesSpec)) symDoesUptoCard

/-- THE SECOND FORM's CARD OF 'cleatlaw21.GraphEntry'. -/
def graphEntryUptoCard : Claim7 := { stood := { row := graphEntryUptoRow, standIns := [], harness := (true, "e56bd12d192163456bc189f08eb8553d7c813858c4e4863a879ad7678af24fee"), looks := false }, kinds := [], alts := [], laidByText := true, laidKinds := [.data, .data, .data, .data, .data, .data, .data, .data], laidTests := true, laidLooks := .later }
def GraphEntryUptoCardSaid : Prop := Claim7.holds Tryz.pinned (.plain (OpenSpec.upto graphEntrySpec)) graphEntryUptoCard
end Rows
end Go.Proofs.YthkolmebokfagaaGreatDoor
