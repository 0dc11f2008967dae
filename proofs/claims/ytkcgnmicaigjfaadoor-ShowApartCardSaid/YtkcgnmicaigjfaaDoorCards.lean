/-
  DERIVED. GIVEN WITH THE SEED: THE CARDS: each row of YtkcgnmicaigjfaaDoorRows.lean that lists a variable, with what it lists TIED to the program's text (the seventh form; the later family's looks); each row that meets fmt, with fmt's text TOLD by the authors' own Lean function (tested against real Go, not proved from fmt's source: count such statements apart). THE CARD IS WHAT COUNTS. Prove the row's statement (the work); the ties are given (YtkcgnmicaigjfaaDoorTie.lean); close each card by the builder's one call (the guide's Derived/Test/ToyasCard.lean, 'card_holds'). Laid BY PROGRAM, IN A SANDBOX (cutbox-door.mjs). By AI agents, Wed Nov 11 2026. No macro, syntax, notation, axiom, sorry.
-/
import Derived.Test.YtkcgnmicaigjfaaDoorRows
import GoSem.ClaimSeven
namespace Go.Proofs.YtkcgnmicaigjfaaDoor
namespace Rows

/-- THE TIED CARD OF 'cleatlaw13.ShowApart'. -/
def showApartCard : Claim7 := { stood := { row := showApartRow, standIns := [], harness := (true, "a805a47411ef2dbd2fa53b572b7f502eb27e7aac9a200371865624ef9e580331"), looks := false }, kinds := [], alts := [], laidByText := true, laidKinds := [.data, .data, .data, .data, .data, .data, .data, .data, .data], laidTests := true, laidLooks := .later }
def ShowApartCardSaid : Prop := Claim7.holds Tryd.pinned (.plain (OpenSpec.ofChange showApartSpec)) showApartCard

/-- THE TIED CARD OF 'cleatlaw13.ShowList'. -/
def showListCard : Claim7 := { stood := { row := showListRow, standIns := [], harness := (true, "a805a47411ef2dbd2fa53b572b7f502eb27e7aac9a200371865624ef9e580331"), looks := false }, kinds := [], alts := [], laidByText := true, laidKinds := [.data, .data, .data, .data, .data, .data, .data, .data, .data], laidTests := true, laidLooks := .later }
def ShowListCardSaid : Prop := Claim7.holds Tryd.pinned (.plain (OpenSpec.ofChange showListSpec)) showListCard

/-- THE SECOND FORM's CARD OF 'cleatlaw13.ShowApart'. -/
def showApartUptoCard : Claim7 := { stood := { row := showApartUptoRow, standIns := [], harness := (true, "a805a47411ef2dbd2fa53b572b7f502eb27e7aac9a200371865624ef9e580331"), looks := false }, kinds := [], alts := [], laidByText := true, laidKinds := [.data, .data, .data, .data, .data, .data, .data, .data, .data], laidTests := true, laidLooks := .later }
def ShowApartUptoCardSaid : Prop := Claim7.holds Tryd.pinned (.plain (OpenSpec.upto showApartSpec)) showApartUptoCard

/-- THE SECOND FORM's CARD OF 'cleatlaw13.ShowList'. -/
def showListUptoCard : Claim7 := { stood := { row := showListUptoRow, standIns := [], harness := (true, "a805a47411ef2dbd2fa53b572b7f502eb27e7aac9a200371865624ef9e580331"), looks := false }, kinds := [], alts := [], laidByText := true, laidKinds := [.data, .data, .data, .data, .data, .data, .data, .data, .data], laidTests := true, laidLooks := .later }
def ShowListUptoCardSaid : Prop := Claim7.holds Tryd.pinned (.plain (OpenSpec.upto showListSpec)) showListUptoCard
end Rows
end Go.Proofs.YtkcgnmicaigjfaaDoor
