/-
  DERIVED. GIVEN WITH THE SEED: THE CARDS: each row of YtdgfadabaejkhaaGreatDoorRows.lean that lists a variable, with what it lists TIED to the program's text (the seventh form; the later family's looks); each row that meets fmt, with fmt's text TOLD by the authors' own Lean function (tested against real Go, not proved from fmt's source: count such statements apart). THE CARD IS WHAT COUNTS. Prove the row's statement (the work); the ties are given (YtdgfadabaejkhaaGreatDoorTie.lean); close each card by the builder's one call (the guide's Derived/Test/ToyasCard.lean, 'card_holds'). Laid BY PROGRAM, IN A SANDBOX (cutbox-door.mjs). By AI agents, Wed Nov 11 2026. No macro, syntax, notation, axiom, sorry.
-/
import Derived.Test.YtdgfadabaejkhaaGreatDoorRows
import GoSem.ClaimSeven
namespace Go.Proofs.YtdgfadabaejkhaaGreatDoor
namespace Rows

/-- THE TIED CARD OF 'cleatlaw19.ObjDoes'. -/
def objDoesCard : Claim7 := { stood := { row := objDoesRow, standIns := [], harness := (true, "54ea71ad3632ed572b6d4011ebc9baf43379cab17dd3c82afc89c532ff191e72"), looks := false }, kinds := [], alts := [], laidByText := true, laidKinds := [.data, .data, .data, .data, .data, .data, .data, .data], laidTests := true, laidLooks := .later }
def ObjDoesCardSaid : Prop := Claim7.holds Tryz.pinned (.plain (OpenSpec.ofChange objDoesSpec)) objDoesCard

/-- THE TIED CARD OF 'cleatlaw20.SymDoes'. -/
def symDoesCard : Claim7 := { stood := { row := symDoesRow, standIns := [], harness := (true, "54ea71ad3632ed572b6d4011ebc9baf43379cab17dd3c82afc89c532ff191e72"), looks := false }, kinds := [], alts := [], laidByText := true, laidKinds := [.data, .data, .data, .data, .data, .data, .data, .data], laidTests := true, laidLooks := .later }
def SymDoesCardSaid : Prop := Claim7.holds Tryz.pinned (.plain (OpenSpec.ofChange symDoesSpec)) symDoesCard

/-- THE TIED CARD OF 'cleatlaw20.SymPlaces'. -/
def symPlacesCard : Claim7 := { stood := { row := symPlacesRow, standIns := [], harness := (true, "54ea71ad3632ed572b6d4011ebc9baf43379cab17dd3c82afc89c532ff191e72"), looks := false }, kinds := [], alts := [], laidByText := true, laidKinds := [.data, .data, .data, .data, .data, .data, .data, .data], laidTests := true, laidLooks := .later }
def SymPlacesCardSaid : Prop := Claim7.holds Tryz.pinned (.plain (OpenSpec.ofChange symPlacesSpec)) symPlacesCard

/-- THE TIED CARD OF 'cleatlaw20.SymFault'. -/
def symFaultCard : Claim7 := { stood := { row := symFaultRow, standIns := [], harness := (true, "54ea71ad3632ed572b6d4011ebc9baf43379cab17dd3c82afc89c532ff191e72"), looks := false }, kinds := [], alts := [], laidByText := true, laidKinds := [.data, .data, .data, .data, .data, .data, .data, .data], laidTests := true, laidLooks := .later }
def SymFaultCardSaid : Prop := Claim7.holds Tryz.pinned (.plain (OpenSpec.ofChange symFaultSpec)) symFaultCard

/-- THE TIED CARD OF 'cleatlaw20.SymMore'. -/
def symMoreCard : Claim7 := { stood := { row := symMoreRow, standIns := [], harness := (true, "54ea71ad3632ed572b6d4011ebc9baf43379cab17dd3c82afc89c532ff191e72"), looks := false }, kinds := [], alts := [], laidByText := true, laidKinds := [.data, .data, .data, .data, .data, .data, .data, .data], laidTests := true, laidLooks := .later }
def SymMoreCardSaid : Prop := Claim7.holds Tryz.pinned (.plain (OpenSpec.ofChange symMoreSpec)) symMoreCard

/-- THE TIED CARD OF 'cleatlaw20.SymAlone'. -/
def symAloneCard : Claim7 := { stood := { row := symAloneRow, standIns := [], harness := (true, "54ea71ad3632ed572b6d4011ebc9baf43379cab17dd3c82afc89c532ff191e72"), looks := false }, kinds := [], alts := [], laidByText := true, laidKinds := [.data, .data, .data, .data, .data, .data, .data, .data], laidTests := true, laidLooks := .later }
def SymAloneCardSaid : Prop := Claim7.holds Tryz.pinned (.plain (OpenSpec.ofChange symAloneSpec)) symAloneCard

/-- THE TIED CARD OF 'cleatlaw21.GraphReach'. -/
def graphReachCard : Claim7 := { stood := { row := graphReachRow, standIns := [], harness := (true, "54ea71ad3632ed572b6d4011ebc9baf43379cab17dd3c82afc89c532ff191e72"), looks := false }, kinds := [], alts := [], laidByText := true, laidKinds := [.data, .data, .data, .data, .data, .data, .data, .data], laidTests := true, laidLooks := .later }
def GraphReachCardSaid : Prop := Claim7.holds Tryz.pinned (.plain (OpenSpec.ofChange graphReachSpec)) graphReachCard

/-- THE TIED CARD OF 'cleatlaw21.GraphEntry'. -/
def graphEntryCard : Claim7 := { stood := { row := graphEntryRow, standIns := [], harness := (true, "54ea71ad3632ed572b6d4011ebc9baf43379cab17dd3c82afc89c532ff191e72"), looks := false }, kinds := [], alts := [], laidByText := true, laidKinds := [.data, .data, .data, .data, .data, .data, .data, .data], laidTests := true, laidLooks := .later }
def GraphEntryCardSaid : Prop := Claim7.holds Tryz.pinned (.plain (OpenSpec.ofChange graphEntrySpec)) graphEntryCard

/-- THE TIED CARD OF 'cleatlaw22.FoldDoes'. -/
def foldDoesCard : Claim7 := { stood := { row := foldDoesRow, standIns := [], harness := (true, "54ea71ad3632ed572b6d4011ebc9baf43379cab17dd3c82afc89c532ff191e72"), looks := false }, kinds := [], alts := [], laidByText := true, laidKinds := [.data, .data, .data, .data, .data, .data, .data, .data], laidTests := true, laidLooks := .later }
def FoldDoesCardSaid : Prop := Claim7.holds Tryz.pinned (.plain (OpenSpec.ofChange foldDoesSpec)) foldDoesCard

/-- THE TIED CARD OF 'cleatlaw22.FoldGood'. -/
def foldGoodCard : Claim7 := { stood := { row := foldGoodRow, standIns := [], harness := (true, "54ea71ad3632ed572b6d4011ebc9baf43379cab17dd3c82afc89c532ff191e72"), looks := false }, kinds := [], alts := [], laidByText := true, laidKinds := [.data, .data, .data, .data, .data, .data, .data, .data], laidTests := true, laidLooks := .later }
def FoldGoodCardSaid : Prop := Claim7.holds Tryz.pinned (.plain (OpenSpec.ofChange foldGoodSpec)) foldGoodCard

/-- THE TIED CARD OF 'cleatlaw22.FoldCoarse'. -/
def foldCoarseCard : Claim7 := { stood := { row := foldCoarseRow, standIns := [], harness := (true, "54ea71ad3632ed572b6d4011ebc9baf43379cab17dd3c82afc89c532ff191e72"), looks := false }, kinds := [], alts := [], laidByText := true, laidKinds := [.data, .data, .data, .data, .data, .data, .data, .data], laidTests := true, laidLooks := .later }
def FoldCoarseCardSaid : Prop := Claim7.holds Tryz.pinned (.plain (OpenSpec.ofChange foldCoarseSpec)) foldCoarseCard

/-- THE TIED CARD OF 'cleatlaw22.FoldSaved'. -/
def foldSavedCard : Claim7 := { stood := { row := foldSavedRow, standIns := [], harness := (true, "54ea71ad3632ed572b6d4011ebc9baf43379cab17dd3c82afc89c532ff191e72"), looks := false }, kinds := [], alts := [], laidByText := true, laidKinds := [.data, .data, .data, .data, .data, .data, .data, .data], laidTests := true, laidLooks := .later }
def FoldSavedCardSaid : Prop := Claim7.holds Tryz.pinned (.plain (OpenSpec.ofChange foldSavedSpec)) foldSavedCard

/-- THE SECOND FORM's CARD OF 'cleatlaw19.ObjDoes'. -/
def objDoesUptoCard : Claim7 := { stood := { row := objDoesUptoRow, standIns := [], harness := (true, "54ea71ad3632ed572b6d4011ebc9baf43379cab17dd3c82afc89c532ff191e72"), looks := false }, kinds := [], alts := [], laidByText := true, laidKinds := [.data, .data, .data, .data, .data, .data, .data, .data], laidTests := true, laidLooks := .later }
def ObjDoesUptoCardSaid : Prop := Claim7.holds Tryz.pinned (.plain (OpenSpec.upto objDoesSpec)) objDoesUptoCard

/-- THE SECOND FORM's CARD OF 'cleatlaw20.SymDoes'. -/
def symDoesUptoCard : Claim7 := { stood := { row := symDoesUptoRow, standIns := [], harness := (true, "54ea71ad3632ed572b6d4011ebc9baf43379cab17dd3c82afc89c532ff191e72"), looks := false }, kinds := [], alts := [], laidByText := true, laidKinds := [.data, .data, .data, .data, .data, .data, .data, .data], laidTests := true, laidLooks := .later }
def SymDoesUptoCardSaid : Prop := Claim7.holds Tryz.pinned (.plain (OpenSpec.upto symDoesSpec)) symDoesUptoCard

/-- THE SECOND FORM's CARD OF 'cleatlaw20.SymPlaces'. -/
def symPlacesUptoCard : Claim7 := { stood := { row := symPlacesUptoRow, standIns := [], harness := (true, "54ea71ad3632ed572b6d4011ebc9baf43379cab17dd3c82afc89c532ff191e72"), looks := false }, kinds := [], alts := [], laidByText := true, laidKinds := [.data, .data, .data, .data, .data, .data, .data, .data], laidTests := true, laidLooks := .later }
def SymPlacesUptoCardSaid : Prop := Claim7.holds Tryz.pinned (.plain (OpenSpec.upto symPlacesSpec)) symPlacesUptoCard

/-- THE SECOND FORM's CARD OF 'cleatlaw20.SymFault'. -/
def symFaultUptoCard : Claim7 := { stood := { row := symFaultUptoRow, standIns := [], harness := (true, "54ea71ad3632ed572b6d4011ebc9baf43379cab17dd3c82afc89c532ff191e72"), looks := false }, kinds := [], alts := [], laidByText := true, laidKinds := [.data, .data, .data, .data, .data, .data, .data, .data], laidTests := true, laidLooks := .later }
def SymFaultUptoCardSaid : Prop := Claim7.holds Tryz.pinned (.plain (OpenSpec.upto symFaultSpec)) symFaultUptoCard

/-- THE SECOND FORM's CARD OF 'cleatlaw20.SymMore'. -/
def symMoreUptoCard : Claim7 := { stood := { row := symMoreUptoRow, standIns := [], harness := (true, "54ea71ad3632ed572b6d4011ebc9baf43379cab17dd3c82afc89c532ff191e72"), looks := false }, kinds := [], alts := [], laidByText := true, laidKinds := [.data, .data, .data, .data, .data, .data, .data, .data], laidTests := true, laidLooks := .later }
def SymMoreUptoCardSaid : Prop := Claim7.holds Tryz.pinned (.plain (OpenSpec.upto symMoreSpec)) symMoreUptoCard

/-- THE SECOND FORM's CARD OF 'cleatlaw20.SymAlone'. -/
def symAloneUptoCard : Claim7 := { stood := { row := symAloneUptoRow, standIns := [], harness := (true, "54ea71ad3632ed572b6d4011ebc9baf43379cab17dd3c82afc89c532ff191e72"), looks := false }, kinds := [], alts := [], laidByText := true, laidKinds := [.data, .data, .data, .data, .data, .data, .data, .data], laidTests := true, laidLooks := .later }
def SymAloneUptoCardSaid : Prop := Claim7.holds Tryz.pinned (.plain (OpenSpec.upto symAloneSpec)) symAloneUptoCard

/-- THE SECOND FORM's CARD OF 'cleatlaw21.GraphReach'. -/
def graphReachUptoCard : Claim7 := { stood := { row := graphReachUptoRow, standIns := [], harness := (true, "54ea71ad3632ed572b6d4011ebc9baf43379cab17dd3c82afc89c532ff191e72"), looks := false }, kinds := [], alts := [], laidByText := true, laidKinds := [.data, .data, .data, .data, .data, .data, .data, .data], laidTests := true, laidLooks := .later }
def GraphReachUptoCardSaid : Prop := Claim7.holds Tryz.pinned (.plain (OpenSpec.upto graphReachSpec)) graphReachUptoCard

/-- THE SECOND FORM's CARD OF 'cleatlaw21.GraphEntry'. -/
def graphEntryUptoCard : Claim7 := { stood := { row := graphEntryUptoRow, standIns := [], harness := (true, "54ea71ad3632ed572b6d4011ebc9baf43379cab17dd3c82afc89c532ff191e72"), looks := false }, kinds := [], alts := [], laidByText := true, laidKinds := [.data, .data, .data, .data, .data, .data, .data, .data], laidTests := true, laidLooks := .later }
def GraphEntryUptoCardSaid : Prop := Claim7.holds Tryz.pinned (.plain (OpenSpec.upto graphEntrySpec)) graphEntryUptoCard

/-- THE SECOND FORM's CARD OF 'cleatlaw22.FoldDoes'. -/
def foldDoesUptoCard : Claim7 := { stood := { row := foldDoesUptoRow, standIns := [], harness := (true, "54ea71ad3632ed572b6d4011ebc9baf43379cab17dd3c82afc89c532ff191e72"), looks := false }, kinds := [], alts := [], laidByText := true, laidKinds := [.data, .data, .data, .data, .data, .data, .data, .data], laidTests := true, laidLooks := .later }
def FoldDoesUptoCardSaid : Prop := Claim7.holds Tryz.pinned (.plain (OpenSpec.upto foldDoesSpec)) foldDoesUptoCard

/-- THE SECOND FORM's CARD OF 'cleatlaw22.FoldGood'. -/
def foldGoodUptoCard : Claim7 := { stood := { row := foldGoodUptoRow, standIns := [], harness := (true, "54ea71ad3632ed572b6d4011ebc9baf43379cab17dd3c82afc89c532ff191e72"), looks := false }, kinds := [], alts := [], laidByText := true, laidKinds := [.data, .data, .data, .data, .data, .data, .data, .data], laidTests := true, laidLooks := .later }
def FoldGoodUptoCardSaid : Prop := Claim7.holds Tryz.pinned (.plain (OpenSpec.upto foldGoodSpec)) foldGoodUptoCard

/-- THE SECOND FORM's CARD OF 'cleatlaw22.FoldCoarse'. -/
def foldCoarseUptoCard : Claim7 := { stood := { row := foldCoarseUptoRow, standIns := [], harness := (true, "54ea71ad3632ed572b6d4011ebc9baf43379cab17dd3c82afc89c532ff191e72"), looks := false }, kinds := [], alts := [], laidByText := true, laidKinds := [.data, .data, .data, .data, .data, .data, .data, .data], laidTests := true, laidLooks := .later }
def FoldCoarseUptoCardSaid : Prop := Claim7.holds Tryz.pinned (.plain (OpenSpec.upto foldCoarseSpec)) foldCoarseUptoCard

/-- THE SECOND FORM's CARD OF 'cleatlaw22.FoldSaved'. -/
def foldSavedUptoCard : Claim7 := { stood := { row := foldSavedUptoRow, standIns := [], harness := (true, "54ea71ad3632ed572b6d4011ebc9baf43379cab17dd3c82afc89c532ff191e72"), looks := false }, kinds := [], alts := [], laidByText := true, laidKinds := [.data, .data, .data, .data, .data, .data, .data, .data], laidTests := true, laidLooks := .later }
def FoldSavedUptoCardSaid : Prop := Claim7.holds Tryz.pinned (.plain (OpenSpec.upto foldSavedSpec)) foldSavedUptoCard
end Rows
end Go.Proofs.YtdgfadabaejkhaaGreatDoor
