/-
  DERIVED. GIVEN WITH THE SEED: THE CARDS: each row of YthejefldnpeciaaGreatDoorRows.lean that lists a variable, with what it lists TIED to the program's text (the seventh form; the later family's looks); each row that meets fmt, with fmt's text TOLD by the authors' own Lean function (tested against real Go, not proved from fmt's source: count such statements apart). THE CARD IS WHAT COUNTS. Prove the row's statement (the work); the ties are given (YthejefldnpeciaaGreatDoorTie.lean); close each card by the builder's one call (the guide's Derived/Test/ToyasCard.lean, 'card_holds'). Laid BY PROGRAM, IN A SANDBOX (cutbox-door.mjs). By AI agents, Wed Nov 11 2026. No macro, syntax, notation, axiom, sorry.
-/
import Derived.Test.YthejefldnpeciaaGreatDoorRows
import GoSem.ClaimSeven
namespace Go.Proofs.YthejefldnpeciaaGreatDoor
namespace Rows

/-- THE TIED CARD OF 'cleatlaw12.LineRight'. -/
def lineRightCard : Claim7 := { stood := { row := lineRightRow, standIns := [], harness := (true, "309afb041eb53d32ce5d29098959ddfad9f2e2e621399a038b0eedb0ba5cc1b5"), looks := true }, kinds := [], alts := [], laidByText := true, laidKinds := [.data, .data, .data, .data, .data, .data, .data, .data, .pinned], laidTests := true, laidLooks := .later }
def LineRightCardSaid : Prop := Claim7.holds Tryz.pinned (.plain (OpenSpec.ofChange lineRightSpec)) lineRightCard

/-- THE TIED CARD OF 'cleatlaw12.LineNeeds'. -/
def lineNeedsCard : Claim7 := { stood := { row := lineNeedsRow, standIns := [], harness := (true, "309afb041eb53d32ce5d29098959ddfad9f2e2e621399a038b0eedb0ba5cc1b5"), looks := true }, kinds := [], alts := [], laidByText := true, laidKinds := [.data, .data, .data, .data, .data, .data, .data, .pinned], laidTests := true, laidLooks := .later }
def LineNeedsCardSaid : Prop := Claim7.holds Tryz.pinned (.plain (OpenSpec.ofChange lineNeedsSpec)) lineNeedsCard

/-- THE TIED CARD OF 'cleatlaw12.LineTold'. -/
def lineToldCard : Claim7 := { stood := { row := lineToldRow, standIns := [], harness := (true, "309afb041eb53d32ce5d29098959ddfad9f2e2e621399a038b0eedb0ba5cc1b5"), looks := true }, kinds := [], alts := [], laidByText := true, laidKinds := [.data, .data, .data, .data, .data, .data, .data, .data, .pinned], laidTests := true, laidLooks := .later }
def LineToldCardSaid : Prop := Claim7.holds Tryz.pinned (.plain (OpenSpec.ofChange lineToldSpec)) lineToldCard

/-- THE TIED CARD OF 'cleatlaw12.LineConds'. -/
def lineCondsCard : Claim7 := { stood := { row := lineCondsRow, standIns := [], harness := (true, "309afb041eb53d32ce5d29098959ddfad9f2e2e621399a038b0eedb0ba5cc1b5"), looks := true }, kinds := [], alts := [], laidByText := true, laidKinds := [.data, .data, .data, .data, .data, .data, .data, .pinned], laidTests := true, laidLooks := .later }
def LineCondsCardSaid : Prop := Claim7.holds Tryz.pinned (.plain (OpenSpec.ofChange lineCondsSpec)) lineCondsCard

/-- THE SECOND FORM's CARD OF 'cleatlaw12.LineRight'. -/
def lineRightUptoCard : Claim7 := { stood := { row := lineRightUptoRow, standIns := [], harness := (true, "309afb041eb53d32ce5d29098959ddfad9f2e2e621399a038b0eedb0ba5cc1b5"), looks := true }, kinds := [], alts := [], laidByText := true, laidKinds := [.data, .data, .data, .data, .data, .data, .data, .data, .pinned], laidTests := true, laidLooks := .later }
def LineRightUptoCardSaid : Prop := Claim7.holds Tryz.pinned (.plain (OpenSpec.upto lineRightSpec)) lineRightUptoCard

/-- THE SECOND FORM's CARD OF 'cleatlaw12.LineNeeds'. -/
def lineNeedsUptoCard : Claim7 := { stood := { row := lineNeedsUptoRow, standIns := [], harness := (true, "309afb041eb53d32ce5d29098959ddfad9f2e2e621399a038b0eedb0ba5cc1b5"), looks := true }, kinds := [], alts := [], laidByText := true, laidKinds := [.data, .data, .data, .data, .data, .data, .data, .pinned], laidTests := true, laidLooks := .later }
def LineNeedsUptoCardSaid : Prop := Claim7.holds Tryz.pinned (.plain (OpenSpec.upto lineNeedsSpec)) lineNeedsUptoCard

/-- THE SECOND FORM's CARD OF 'cleatlaw12.LineTold'. -/
def lineToldUptoCard : Claim7 := { stood := { row := lineToldUptoRow, standIns := [], harness := (true, "309afb041eb53d32ce5d29098959ddfad9f2e2e621399a038b0eedb0ba5cc1b5"), looks := true }, kinds := [], alts := [], laidByText := true, laidKinds := [.data, .data, .data, .data, .data, .data, .data, .data, .pinned], laidTests := true, laidLooks := .later }
def LineToldUptoCardSaid : Prop := Claim7.holds Tryz.pinned (.plain (OpenSpec.upto lineToldSpec)) lineToldUptoCard

/-- THE SECOND FORM's CARD OF 'cleatlaw12.LineConds'. -/
def lineCondsUptoCard : Claim7 := { stood := { row := lineCondsUptoRow, standIns := [], harness := (true, "309afb041eb53d32ce5d29098959ddfad9f2e2e621399a038b0eedb0ba5cc1b5"), looks := true }, kinds := [], alts := [], laidByText := true, laidKinds := [.data, .data, .data, .data, .data, .data, .data, .pinned], laidTests := true, laidLooks := .later }
def LineCondsUptoCardSaid : Prop := Claim7.holds Tryz.pinned (.plain (OpenSpec.upto lineCondsSpec)) lineCondsUptoCard
end Rows
end Go.Proofs.YthejefldnpeciaaGreatDoor
