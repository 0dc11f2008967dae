/-
  DERIVED. GIVEN WITH THE SEED: THE CARDS: each row of YtpneegmggoebhaaDoorRows.lean that lists a variable, with what it lists TIED to the program's text (the seventh form; the later family's looks); each row that meets fmt, with fmt's text TOLD by the authors' own Lean function (tested against real Go, not proved from fmt's source: count such statements apart). THE CARD IS WHAT COUNTS. Prove the row's statement (the work); the ties are given (YtpneegmggoebhaaDoorTie.lean); close each card by the builder's one call (the guide's Derived/Test/ToyasCard.lean, 'card_holds'). Laid BY PROGRAM, IN A SANDBOX (cutbox-door.mjs). By AI agents, Wed Nov 11 2026. No macro, syntax, notation, axiom, sorry.
-/
import Derived.Test.YtpneegmggoebhaaDoorRows
import GoSem.ClaimSeven
namespace Go.Proofs.YtpneegmggoebhaaDoor
namespace Rows

/-- THE TIED CARD OF 'cleatlaw02.MaskDoes'. -/
def maskDoesCard : Claim7 := { stood := { row := maskDoesRow, standIns := [], harness := (true, "1303deaaf7fc9feb53d3b8c081812b93b5c01342f4df92c8d511ddb04bead969"), looks := false }, kinds := [], alts := [], laidByText := true, laidKinds := [.data], laidTests := true, laidLooks := .later }
def MaskDoesCardSaid : Prop := Claim7.holds Tryd.pinned (.plain (OpenSpec.ofChange maskDoesSpec)) maskDoesCard

/-- THE TIED CARD OF 'cleatlaw02.MaskBack'. -/
def maskBackCard : Claim7 := { stood := { row := maskBackRow, standIns := [], harness := (true, "1303deaaf7fc9feb53d3b8c081812b93b5c01342f4df92c8d511ddb04bead969"), looks := false }, kinds := [], alts := [], laidByText := true, laidKinds := [.data], laidTests := true, laidLooks := .later }
def MaskBackCardSaid : Prop := Claim7.holds Tryd.pinned (.plain (OpenSpec.ofChange maskBackSpec)) maskBackCard

/-- THE TIED CARD OF 'cleatlaw02.MaskOther'. -/
def maskOtherCard : Claim7 := { stood := { row := maskOtherRow, standIns := [], harness := (true, "1303deaaf7fc9feb53d3b8c081812b93b5c01342f4df92c8d511ddb04bead969"), looks := false }, kinds := [], alts := [], laidByText := true, laidKinds := [.data], laidTests := true, laidLooks := .later }
def MaskOtherCardSaid : Prop := Claim7.holds Tryd.pinned (.plain (OpenSpec.ofChange maskOtherSpec)) maskOtherCard

/-- THE TIED CARD OF 'cleatlaw02.MaskRow'. -/
def maskRowCard : Claim7 := { stood := { row := maskRowRow, standIns := [], harness := (true, "1303deaaf7fc9feb53d3b8c081812b93b5c01342f4df92c8d511ddb04bead969"), looks := false }, kinds := [], alts := [], laidByText := true, laidKinds := [.data], laidTests := true, laidLooks := .later }
def MaskRowCardSaid : Prop := Claim7.holds Tryd.pinned (.plain (OpenSpec.ofChange maskRowSpec)) maskRowCard

/-- THE TIED CARD OF 'cleatlaw02.MaskSize'. -/
def maskSizeCard : Claim7 := { stood := { row := maskSizeRow, standIns := [], harness := (true, "1303deaaf7fc9feb53d3b8c081812b93b5c01342f4df92c8d511ddb04bead969"), looks := false }, kinds := [], alts := [], laidByText := true, laidKinds := [.data], laidTests := true, laidLooks := .later }
def MaskSizeCardSaid : Prop := Claim7.holds Tryd.pinned (.plain (OpenSpec.ofChange maskSizeSpec)) maskSizeCard

/-- THE SECOND FORM's CARD OF 'cleatlaw02.MaskDoes'. -/
def maskDoesUptoCard : Claim7 := { stood := { row := maskDoesUptoRow, standIns := [], harness := (true, "1303deaaf7fc9feb53d3b8c081812b93b5c01342f4df92c8d511ddb04bead969"), looks := false }, kinds := [], alts := [], laidByText := true, laidKinds := [.data], laidTests := true, laidLooks := .later }
def MaskDoesUptoCardSaid : Prop := Claim7.holds Tryd.pinned (.plain (OpenSpec.upto maskDoesSpec)) maskDoesUptoCard

/-- THE SECOND FORM's CARD OF 'cleatlaw02.MaskBack'. -/
def maskBackUptoCard : Claim7 := { stood := { row := maskBackUptoRow, standIns := [], harness := (true, "1303deaaf7fc9feb53d3b8c081812b93b5c01342f4df92c8d511ddb04bead969"), looks := false }, kinds := [], alts := [], laidByText := true, laidKinds := [.data], laidTests := true, laidLooks := .later }
def MaskBackUptoCardSaid : Prop := Claim7.holds Tryd.pinned (.plain (OpenSpec.upto maskBackSpec)) maskBackUptoCard

/-- THE SECOND FORM's CARD OF 'cleatlaw02.MaskOther'. -/
def maskOtherUptoCard : Claim7 := { stood := { row := maskOtherUptoRow, standIns := [], harness := (true, "1303deaaf7fc9feb53d3b8c081812b93b5c01342f4df92c8d511ddb04bead969"), looks := false }, kinds := [], alts := [], laidByText := true, laidKinds := [.data], laidTests := true, laidLooks := .later }
def MaskOtherUptoCardSaid : Prop := Claim7.holds Tryd.pinned (.plain (OpenSpec.upto maskOtherSpec)) maskOtherUptoCard

/-- THE SECOND FORM's CARD OF 'cleatlaw02.MaskRow'. -/
def maskRowUptoCard : Claim7 := { stood := { row := maskRowUptoRow, standIns := [], harness := (true, "1303deaaf7fc9feb53d3b8c081812b93b5c01342f4df92c8d511ddb04bead969"), looks := false }, kinds := [], alts := [], laidByText := true, laidKinds := [.data], laidTests := true, laidLooks := .later }
def MaskRowUptoCardSaid : Prop := Claim7.holds Tryd.pinned (.plain (OpenSpec.upto maskRowSpec)) maskRowUptoCard

/-- THE SECOND FORM's CARD OF 'cleatlaw02.MaskSize'. -/
def maskSizeUptoCard : Claim7 := { stood := { row := maskSizeUptoRow, standIns := [], harness := (true, "1303deaaf7fc9feb53d3b8c081812b93b5c01342f4df92c8d511ddb04bead969"), looks := false }, kinds := [], alts := [], laidByText := true, laidKinds := [.data], laidTests := true, laidLooks := .later }
def MaskSizeUptoCardSaid : Prop := Claim7.holds Tryd.pinned (.plain (OpenSpec.upto maskSizeSpec)) maskSizeUptoCard
end Rows
end Go.Proofs.YtpneegmggoebhaaDoor
