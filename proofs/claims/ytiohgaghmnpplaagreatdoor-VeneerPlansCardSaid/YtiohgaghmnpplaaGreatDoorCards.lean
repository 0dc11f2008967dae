/-
  DERIVED. GIVEN WITH THE SEED: THE CARDS: each row of YtiohgaghmnpplaaGreatDoorRows.lean that lists a variable, with what it lists TIED to the program's text (the seventh form; the later family's looks); each row that meets fmt, with fmt's text TOLD by the authors' own Lean function (tested against real Go, not proved from fmt's source: count such statements apart). THE CARD IS WHAT COUNTS. Prove the row's statement (the work); the ties are given (YtiohgaghmnpplaaGreatDoorTie.lean); close each card by the builder's one call (the guide's Derived/Test/ToyasCard.lean, 'card_holds'). Laid BY PROGRAM, IN A SANDBOX (cutbox-door.mjs). By AI agents, Wed Nov 11 2026. No macro, syntax, notation, axiom, sorry.
-/
import Derived.Test.YtiohgaghmnpplaaGreatDoorRows
import GoSem.ClaimSeven
namespace Go.Proofs.YtiohgaghmnpplaaGreatDoor
namespace Rows

/-- THE TIED CARD OF 'cleatlaw25.VeneerDoes'. -/
def veneerDoesCard : Claim7 := { stood := { row := veneerDoesRow, standIns := [], harness := (true, "743a0c78f4f681c3f880e44cdd60ce39015b2c3287e7a7dca656baa675548497"), looks := false }, kinds := [], alts := [], laidByText := true, laidKinds := [.data, .data, .data, .data, .data, .data, .data, .data], laidTests := true, laidLooks := .later }
def VeneerDoesCardSaid : Prop := Claim7.holds Tryz.pinned (.plain (OpenSpec.ofChange veneerDoesSpec)) veneerDoesCard

/-- THE TIED CARD OF 'cleatlaw25.VeneerPlans'. -/
def veneerPlansCard : Claim7 := { stood := { row := veneerPlansRow, standIns := [], harness := (true, "743a0c78f4f681c3f880e44cdd60ce39015b2c3287e7a7dca656baa675548497"), looks := false }, kinds := [], alts := [], laidByText := true, laidKinds := [.data, .data, .data, .data, .data, .data, .data, .data], laidTests := true, laidLooks := .later }
def VeneerPlansCardSaid : Prop := Claim7.holds Tryz.pinned (.plain (OpenSpec.ofChange veneerPlansSpec)) veneerPlansCard

/-- THE TIED CARD OF 'cleatlaw25.VeneerNear'. -/
def veneerNearCard : Claim7 := { stood := { row := veneerNearRow, standIns := [], harness := (true, "743a0c78f4f681c3f880e44cdd60ce39015b2c3287e7a7dca656baa675548497"), looks := false }, kinds := [], alts := [], laidByText := true, laidKinds := [.data, .data, .data, .data, .data, .data, .data, .data], laidTests := true, laidLooks := .later }
def VeneerNearCardSaid : Prop := Claim7.holds Tryz.pinned (.plain (OpenSpec.ofChange veneerNearSpec)) veneerNearCard

/-- THE TIED CARD OF 'cleatlaw25.VeneerStays'. -/
def veneerStaysCard : Claim7 := { stood := { row := veneerStaysRow, standIns := [], harness := (true, "743a0c78f4f681c3f880e44cdd60ce39015b2c3287e7a7dca656baa675548497"), looks := false }, kinds := [], alts := [], laidByText := true, laidKinds := [.data, .data, .data, .data, .data, .data, .data, .data], laidTests := true, laidLooks := .later }
def VeneerStaysCardSaid : Prop := Claim7.holds Tryz.pinned (.plain (OpenSpec.ofChange veneerStaysSpec)) veneerStaysCard

/-- THE SECOND FORM's CARD OF 'cleatlaw25.VeneerDoes'. -/
def veneerDoesUptoCard : Claim7 := { stood := { row := veneerDoesUptoRow, standIns := [], harness := (true, "743a0c78f4f681c3f880e44cdd60ce39015b2c3287e7a7dca656baa675548497"), looks := false }, kinds := [], alts := [], laidByText := true, laidKinds := [.data, .data, .data, .data, .data, .data, .data, .data], laidTests := true, laidLooks := .later }
def VeneerDoesUptoCardSaid : Prop := Claim7.holds Tryz.pinned (.plain (OpenSpec.upto veneerDoesSpec)) veneerDoesUptoCard

/-- THE SECOND FORM's CARD OF 'cleatlaw25.VeneerPlans'. -/
def veneerPlansUptoCard : Claim7 := { stood := { row := veneerPlansUptoRow, standIns := [], harness := (true, "743a0c78f4f681c3f880e44cdd60ce39015b2c3287e7a7dca656baa675548497"), looks := false }, kinds := [], alts := [], laidByText := true, laidKinds := [.data, .data, .data, .data, .data, .data, .data, .data], laidTests := true, laidLooks := .later }
def VeneerPlansUptoCardSaid : Prop := Claim7.holds Tryz.pinned (.plain (OpenSpec.upto veneerPlansSpec)) veneerPlansUptoCard

/-- THE SECOND FORM's CARD OF 'cleatlaw25.VeneerNear'. -/
def veneerNearUptoCard : Claim7 := { stood := { row := veneerNearUptoRow, standIns := [], harness := (true, "743a0c78f4f681c3f880e44cdd60ce39015b2c3287e7a7dca656baa675548497"), looks := false }, kinds := [], alts := [], laidByText := true, laidKinds := [.data, .data, .data, .data, .data, .data, .data, .data], laidTests := true, laidLooks := .later }
def VeneerNearUptoCardSaid : Prop := Claim7.holds Tryz.pinned (.plain (OpenSpec.upto veneerNearSpec)) veneerNearUptoCard

/-- THE SECOND FORM's CARD OF 'cleatlaw25.VeneerStays'. -/
def veneerStaysUptoCard : Claim7 := { stood := { row := veneerStaysUptoRow, standIns := [], harness := (true, "743a0c78f4f681c3f880e44cdd60ce39015b2c3287e7a7dca656baa675548497"), looks := false }, kinds := [], alts := [], laidByText := true, laidKinds := [.data, .data, .data, .data, .data, .data, .data, .data], laidTests := true, laidLooks := .later }
def VeneerStaysUptoCardSaid : Prop := Claim7.holds Tryz.pinned (.plain (OpenSpec.upto veneerStaysSpec)) veneerStaysUptoCard
end Rows
end Go.Proofs.YtiohgaghmnpplaaGreatDoor
