/-
  DERIVED. GIVEN WITH THE SEED: THE CARDS: each row of YtobdldadfipcgaaGreatDoorRows.lean that lists a variable, with what it lists TIED to the program's text (the seventh form; the later family's looks); each row that meets fmt, with fmt's text TOLD by the authors' own Lean function (tested against real Go, not proved from fmt's source: count such statements apart). THE CARD IS WHAT COUNTS. Prove the row's statement (the work); the ties are given (YtobdldadfipcgaaGreatDoorTie.lean); close each card by the builder's one call (the guide's Derived/Test/ToyasCard.lean, 'card_holds'). Laid BY PROGRAM, IN A SANDBOX (cutbox-door.mjs). By AI agents, Wed Nov 11 2026. No macro, syntax, notation, axiom, sorry.
-/
import Derived.Test.YtobdldadfipcgaaGreatDoorRows
import GoSem.ClaimSeven
namespace Go.Proofs.YtobdldadfipcgaaGreatDoor
namespace Rows

/-- THE TIED CARD OF 'cleatlaw25.VeneerApart'. -/
def veneerApartCard : Claim7 := { stood := { row := veneerApartRow, standIns := [], harness := (true, "a22d13b12ed033b135f5f14618585200e2b9a4df9a147f69f8c0a02075b4b56b"), looks := false }, kinds := [], alts := [], laidByText := true, laidKinds := [.data, .data, .data, .data, .data, .data, .data, .data], laidTests := true, laidLooks := .later }
def VeneerApartCardSaid : Prop := Claim7.holds Tryz.pinned (.plain (OpenSpec.ofChange veneerApartSpec)) veneerApartCard

/-- THE SECOND FORM's CARD OF 'cleatlaw25.VeneerApart'. -/
def veneerApartUptoCard : Claim7 := { stood := { row := veneerApartUptoRow, standIns := [], harness := (true, "a22d13b12ed033b135f5f14618585200e2b9a4df9a147f69f8c0a02075b4b56b"), looks := false }, kinds := [], alts := [], laidByText := true, laidKinds := [.data, .data, .data, .data, .data, .data, .data, .data], laidTests := true, laidLooks := .later }
def VeneerApartUptoCardSaid : Prop := Claim7.holds Tryz.pinned (.plain (OpenSpec.upto veneerApartSpec)) veneerApartUptoCard
end Rows
end Go.Proofs.YtobdldadfipcgaaGreatDoor
