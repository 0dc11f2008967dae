/-
  DERIVED. GIVEN WITH THE SEED: THE CARDS: each row of YtdeigbdcipkaaaaGreatDoorRows.lean that lists a variable, with what it lists TIED to the program's text (the seventh form; the later family's looks); each row that meets fmt, with fmt's text TOLD by the authors' own Lean function (tested against real Go, not proved from fmt's source: count such statements apart). THE CARD IS WHAT COUNTS. Prove the row's statement (the work); the ties are given (YtdeigbdcipkaaaaGreatDoorTie.lean); close each card by the builder's one call (the guide's Derived/Test/ToyasCard.lean, 'card_holds'). Laid BY PROGRAM, IN A SANDBOX (cutbox-door.mjs). By AI agents, Wed Nov 11 2026. No macro, syntax, notation, axiom, sorry.
-/
import Derived.Test.YtdeigbdcipkaaaaGreatDoorRows
import GoSem.ClaimSeven
namespace Go.Proofs.YtdeigbdcipkaaaaGreatDoor
namespace Rows

/-- THE TIED CARD OF 'cleatlaw26.FixDoes'. -/
def fixDoesCard : Claim7 := { stood := { row := fixDoesRow, standIns := [], harness := (true, "a9dd1fe54e528090fd1674bfc826525593a17ed42df86281c8fe7d7080bb7f38"), looks := false }, kinds := [], alts := [], laidByText := true, laidKinds := [.data, .data, .data, .data, .data], laidTests := true, laidLooks := .later }
def FixDoesCardSaid : Prop := Claim7.holds Tryz.pinned (.plain (OpenSpec.ofChange fixDoesSpec)) fixDoesCard

/-- THE SECOND FORM's CARD OF 'cleatlaw26.FixDoes'. -/
def fixDoesUptoCard : Claim7 := { stood := { row := fixDoesUptoRow, standIns := [], harness := (true, "a9dd1fe54e528090fd1674bfc826525593a17ed42df86281c8fe7d7080bb7f38"), looks := false }, kinds := [], alts := [], laidByText := true, laidKinds := [.data, .data, .data, .data, .data], laidTests := true, laidLooks := .later }
def FixDoesUptoCardSaid : Prop := Claim7.holds Tryz.pinned (.plain (OpenSpec.upto fixDoesSpec)) fixDoesUptoCard
end Rows
end Go.Proofs.YtdeigbdcipkaaaaGreatDoor
