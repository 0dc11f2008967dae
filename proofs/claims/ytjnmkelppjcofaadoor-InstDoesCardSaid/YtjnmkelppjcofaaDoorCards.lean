/-
  DERIVED. GIVEN WITH THE SEED: THE CARDS: each row of YtjnmkelppjcofaaDoorRows.lean that lists a variable, with what it lists TIED to the program's text (the seventh form; the later family's looks); each row that meets fmt, with fmt's text TOLD by the authors' own Lean function (tested against real Go, not proved from fmt's source: count such statements apart). THE CARD IS WHAT COUNTS. Prove the row's statement (the work); the ties are given (YtjnmkelppjcofaaDoorTie.lean); close each card by the builder's one call (the guide's Derived/Test/ToyasCard.lean, 'card_holds'). Laid BY PROGRAM, IN A SANDBOX (cutbox-door.mjs). By AI agents, Wed Nov 11 2026. No macro, syntax, notation, axiom, sorry.
-/
import Derived.Test.YtjnmkelppjcofaaDoorRows
import GoSem.ClaimSeven
namespace Go.Proofs.YtjnmkelppjcofaaDoor
namespace Rows

/-- THE TIED CARD OF 'cleatlaw04.InstDoes'. -/
def instDoesCard : Claim7 := { stood := { row := instDoesRow, standIns := [], harness := (true, "8545ef1ece22825ac74f3ac330a720643054e0afacfd48719a50afe8dc3f6e5e"), looks := false }, kinds := [], alts := [], laidByText := true, laidKinds := [.data, .data, .data], laidTests := true, laidLooks := .later }
def InstDoesCardSaid : Prop := Claim7.holds Tryd.pinned (.plain (OpenSpec.ofChange instDoesSpec)) instDoesCard

/-- THE TIED CARD OF 'cleatlaw04.InstNamed'. -/
def instNamedCard : Claim7 := { stood := { row := instNamedRow, standIns := [], harness := (true, "8545ef1ece22825ac74f3ac330a720643054e0afacfd48719a50afe8dc3f6e5e"), looks := false }, kinds := [], alts := [], laidByText := true, laidKinds := [.data, .data, .data], laidTests := true, laidLooks := .later }
def InstNamedCardSaid : Prop := Claim7.holds Tryd.pinned (.plain (OpenSpec.ofChange instNamedSpec)) instNamedCard

/-- THE TIED CARD OF 'cleatlaw04.InstBack'. -/
def instBackCard : Claim7 := { stood := { row := instBackRow, standIns := [], harness := (true, "8545ef1ece22825ac74f3ac330a720643054e0afacfd48719a50afe8dc3f6e5e"), looks := false }, kinds := [], alts := [], laidByText := true, laidKinds := [.data, .data, .data], laidTests := true, laidLooks := .later }
def InstBackCardSaid : Prop := Claim7.holds Tryd.pinned (.plain (OpenSpec.ofChange instBackSpec)) instBackCard

/-- THE TIED CARD OF 'cleatlaw04.InstOwn'. -/
def instOwnCard : Claim7 := { stood := { row := instOwnRow, standIns := [], harness := (true, "8545ef1ece22825ac74f3ac330a720643054e0afacfd48719a50afe8dc3f6e5e"), looks := false }, kinds := [], alts := [], laidByText := true, laidKinds := [.data, .data, .data], laidTests := true, laidLooks := .later }
def InstOwnCardSaid : Prop := Claim7.holds Tryd.pinned (.plain (OpenSpec.ofChange instOwnSpec)) instOwnCard

/-- THE TIED CARD OF 'cleatlaw04.InstRenamed'. -/
def instRenamedCard : Claim7 := { stood := { row := instRenamedRow, standIns := [], harness := (true, "8545ef1ece22825ac74f3ac330a720643054e0afacfd48719a50afe8dc3f6e5e"), looks := false }, kinds := [], alts := [], laidByText := true, laidKinds := [.data, .data, .data], laidTests := true, laidLooks := .later }
def InstRenamedCardSaid : Prop := Claim7.holds Tryd.pinned (.plain (OpenSpec.ofChange instRenamedSpec)) instRenamedCard

/-- THE TIED CARD OF 'cleatlaw04.InstMask'. -/
def instMaskCard : Claim7 := { stood := { row := instMaskRow, standIns := [], harness := (true, "8545ef1ece22825ac74f3ac330a720643054e0afacfd48719a50afe8dc3f6e5e"), looks := false }, kinds := [], alts := [], laidByText := true, laidKinds := [.data, .data, .data], laidTests := true, laidLooks := .later }
def InstMaskCardSaid : Prop := Claim7.holds Tryd.pinned (.plain (OpenSpec.ofChange instMaskSpec)) instMaskCard

/-- THE SECOND FORM's CARD OF 'cleatlaw04.InstDoes'. -/
def instDoesUptoCard : Claim7 := { stood := { row := instDoesUptoRow, standIns := [], harness := (true, "8545ef1ece22825ac74f3ac330a720643054e0afacfd48719a50afe8dc3f6e5e"), looks := false }, kinds := [], alts := [], laidByText := true, laidKinds := [.data, .data, .data], laidTests := true, laidLooks := .later }
def InstDoesUptoCardSaid : Prop := Claim7.holds Tryd.pinned (.plain (OpenSpec.upto instDoesSpec)) instDoesUptoCard

/-- THE SECOND FORM's CARD OF 'cleatlaw04.InstNamed'. -/
def instNamedUptoCard : Claim7 := { stood := { row := instNamedUptoRow, standIns := [], harness := (true, "8545ef1ece22825ac74f3ac330a720643054e0afacfd48719a50afe8dc3f6e5e"), looks := false }, kinds := [], alts := [], laidByText := true, laidKinds := [.data, .data, .data], laidTests := true, laidLooks := .later }
def InstNamedUptoCardSaid : Prop := Claim7.holds Tryd.pinned (.plain (OpenSpec.upto instNamedSpec)) instNamedUptoCard

/-- THE SECOND FORM's CARD OF 'cleatlaw04.InstBack'. -/
def instBackUptoCard : Claim7 := { stood := { row := instBackUptoRow, standIns := [], harness := (true, "8545ef1ece22825ac74f3ac330a720643054e0afacfd48719a50afe8dc3f6e5e"), looks := false }, kinds := [], alts := [], laidByText := true, laidKinds := [.data, .data, .data], laidTests := true, laidLooks := .later }
def InstBackUptoCardSaid : Prop := Claim7.holds Tryd.pinned (.plain (OpenSpec.upto instBackSpec)) instBackUptoCard

/-- THE SECOND FORM's CARD OF 'cleatlaw04.InstOwn'. -/
def instOwnUptoCard : Claim7 := { stood := { row := instOwnUptoRow, standIns := [], harness := (true, "8545ef1ece22825ac74f3ac330a720643054e0afacfd48719a50afe8dc3f6e5e"), looks := false }, kinds := [], alts := [], laidByText := true, laidKinds := [.data, .data, .data], laidTests := true, laidLooks := .later }
def InstOwnUptoCardSaid : Prop := Claim7.holds Tryd.pinned (.plain (OpenSpec.upto instOwnSpec)) instOwnUptoCard

/-- THE SECOND FORM's CARD OF 'cleatlaw04.InstRenamed'. -/
def instRenamedUptoCard : Claim7 := { stood := { row := instRenamedUptoRow, standIns := [], harness := (true, "8545ef1ece22825ac74f3ac330a720643054e0afacfd48719a50afe8dc3f6e5e"), looks := false }, kinds := [], alts := [], laidByText := true, laidKinds := [.data, .data, .data], laidTests := true, laidLooks := .later }
def InstRenamedUptoCardSaid : Prop := Claim7.holds Tryd.pinned (.plain (OpenSpec.upto instRenamedSpec)) instRenamedUptoCard

/-- THE SECOND FORM's CARD OF 'cleatlaw04.InstMask'. -/
def instMaskUptoCard : Claim7 := { stood := { row := instMaskUptoRow, standIns := [], harness := (true, "8545ef1ece22825ac74f3ac330a720643054e0afacfd48719a50afe8dc3f6e5e"), looks := false }, kinds := [], alts := [], laidByText := true, laidKinds := [.data, .data, .data], laidTests := true, laidLooks := .later }
def InstMaskUptoCardSaid : Prop := Claim7.holds Tryd.pinned (.plain (OpenSpec.upto instMaskSpec)) instMaskUptoCard
end Rows
end Go.Proofs.YtjnmkelppjcofaaDoor
