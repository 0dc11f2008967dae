/-
  DERIVED. GIVEN WITH THE SEED: THE CARDS: each row of YtkdhomofagjcmaaGreatDoorRows.lean that lists a variable, with what it lists TIED to the program's text (the seventh form; the later family's looks); each row that meets fmt, with fmt's text TOLD by the authors' own Lean function (tested against real Go, not proved from fmt's source: count such statements apart). THE CARD IS WHAT COUNTS. Prove the row's statement (the work); the ties are given (YtkdhomofagjcmaaGreatDoorTie.lean); close each card by the builder's one call (the guide's Derived/Test/ToyasCard.lean, 'card_holds'). Laid BY PROGRAM, IN A SANDBOX (cutbox-door.mjs). By AI agents, Wed Nov 11 2026. No macro, syntax, notation, axiom, sorry.
-/
import Derived.Test.YtkdhomofagjcmaaGreatDoorRows
import GoSem.ClaimSeven
namespace Go.Proofs.YtkdhomofagjcmaaGreatDoor
namespace Rows

/-- THE TIED CARD OF 'cleatlaw19.ObjDoes'. -/
def objDoesCard : Claim7 := { stood := { row := objDoesRow, standIns := [], harness := (true, "5807da7a9acfb6e1880c0f0fa3a91287c417eab32209dffbf163eb2478b2adad"), looks := false }, kinds := [], alts := [], laidByText := true, laidKinds := [.data, .data, .data, .data, .data, .data, .data, .data], laidTests := true, laidLooks := .later }
def ObjDoesCardSaid : Prop := Claim7.holds Tryz.pinned (.plain (OpenSpec.ofChange objDoesSpec)) objDoesCard

/-- THE TIED CARD OF 'cleatlaw19.ObjBack'. -/
def objBackCard : Claim7 := { stood := { row := objBackRow, standIns := [], harness := (true, "5807da7a9acfb6e1880c0f0fa3a91287c417eab32209dffbf163eb2478b2adad"), looks := false }, kinds := [], alts := [], laidByText := true, laidKinds := [.data, .data, .data, .data, .data, .data, .data, .data], laidTests := true, laidLooks := .later }
def ObjBackCardSaid : Prop := Claim7.holds Tryz.pinned (.plain (OpenSpec.ofChange objBackSpec)) objBackCard

/-- THE TIED CARD OF 'cleatlaw19.ObjOnly'. -/
def objOnlyCard : Claim7 := { stood := { row := objOnlyRow, standIns := [], harness := (true, "5807da7a9acfb6e1880c0f0fa3a91287c417eab32209dffbf163eb2478b2adad"), looks := false }, kinds := [], alts := [], laidByText := true, laidKinds := [.data, .data, .data, .data, .data, .data, .data, .data], laidTests := true, laidLooks := .later }
def ObjOnlyCardSaid : Prop := Claim7.holds Tryz.pinned (.plain (OpenSpec.ofChange objOnlySpec)) objOnlyCard

/-- THE TIED CARD OF 'cleatlaw20.SymDoes'. -/
def symDoesCard : Claim7 := { stood := { row := symDoesRow, standIns := [], harness := (true, "5807da7a9acfb6e1880c0f0fa3a91287c417eab32209dffbf163eb2478b2adad"), looks := false }, kinds := [], alts := [], laidByText := true, laidKinds := [.data, .data, .data, .data, .data, .data, .data, .data], laidTests := true, laidLooks := .later }
def SymDoesCardSaid : Prop := Claim7.holds Tryz.pinned (.plain (OpenSpec.ofChange symDoesSpec)) symDoesCard

/-- THE TIED CARD OF 'cleatlaw20.SymPlaces'. -/
def symPlacesCard : Claim7 := { stood := { row := symPlacesRow, standIns := [], harness := (true, "5807da7a9acfb6e1880c0f0fa3a91287c417eab32209dffbf163eb2478b2adad"), looks := false }, kinds := [], alts := [], laidByText := true, laidKinds := [.data, .data, .data, .data, .data, .data, .data, .data], laidTests := true, laidLooks := .later }
def SymPlacesCardSaid : Prop := Claim7.holds Tryz.pinned (.plain (OpenSpec.ofChange symPlacesSpec)) symPlacesCard

/-- THE TIED CARD OF 'cleatlaw20.SymFault'. -/
def symFaultCard : Claim7 := { stood := { row := symFaultRow, standIns := [], harness := (true, "5807da7a9acfb6e1880c0f0fa3a91287c417eab32209dffbf163eb2478b2adad"), looks := false }, kinds := [], alts := [], laidByText := true, laidKinds := [.data, .data, .data, .data, .data, .data, .data, .data], laidTests := true, laidLooks := .later }
def SymFaultCardSaid : Prop := Claim7.holds Tryz.pinned (.plain (OpenSpec.ofChange symFaultSpec)) symFaultCard

/-- THE TIED CARD OF 'cleatlaw20.SymMore'. -/
def symMoreCard : Claim7 := { stood := { row := symMoreRow, standIns := [], harness := (true, "5807da7a9acfb6e1880c0f0fa3a91287c417eab32209dffbf163eb2478b2adad"), looks := false }, kinds := [], alts := [], laidByText := true, laidKinds := [.data, .data, .data, .data, .data, .data, .data, .data], laidTests := true, laidLooks := .later }
def SymMoreCardSaid : Prop := Claim7.holds Tryz.pinned (.plain (OpenSpec.ofChange symMoreSpec)) symMoreCard

/-- THE TIED CARD OF 'cleatlaw20.SymAlone'. -/
def symAloneCard : Claim7 := { stood := { row := symAloneRow, standIns := [], harness := (true, "5807da7a9acfb6e1880c0f0fa3a91287c417eab32209dffbf163eb2478b2adad"), looks := false }, kinds := [], alts := [], laidByText := true, laidKinds := [.data, .data, .data, .data, .data, .data, .data, .data], laidTests := true, laidLooks := .later }
def SymAloneCardSaid : Prop := Claim7.holds Tryz.pinned (.plain (OpenSpec.ofChange symAloneSpec)) symAloneCard

/-- THE TIED CARD OF 'cleatlaw21.GraphReach'. -/
def graphReachCard : Claim7 := { stood := { row := graphReachRow, standIns := [], harness := (true, "5807da7a9acfb6e1880c0f0fa3a91287c417eab32209dffbf163eb2478b2adad"), looks := false }, kinds := [], alts := [], laidByText := true, laidKinds := [.data, .data, .data, .data, .data, .data, .data, .data], laidTests := true, laidLooks := .later }
def GraphReachCardSaid : Prop := Claim7.holds Tryz.pinned (.plain (OpenSpec.ofChange graphReachSpec)) graphReachCard

/-- THE TIED CARD OF 'cleatlaw21.GraphClosed'. -/
def graphClosedCard : Claim7 := { stood := { row := graphClosedRow, standIns := [], harness := (true, "5807da7a9acfb6e1880c0f0fa3a91287c417eab32209dffbf163eb2478b2adad"), looks := false }, kinds := [], alts := [], laidByText := true, laidKinds := [.data, .data, .data, .data, .data, .data, .data, .data], laidTests := true, laidLooks := .later }
def GraphClosedCardSaid : Prop := Claim7.holds Tryz.pinned (.plain (OpenSpec.ofChange graphClosedSpec)) graphClosedCard

/-- THE TIED CARD OF 'cleatlaw21.GraphUnion'. -/
def graphUnionCard : Claim7 := { stood := { row := graphUnionRow, standIns := [], harness := (true, "5807da7a9acfb6e1880c0f0fa3a91287c417eab32209dffbf163eb2478b2adad"), looks := false }, kinds := [], alts := [], laidByText := true, laidKinds := [.data, .data, .data, .data, .data, .data, .data, .data], laidTests := true, laidLooks := .later }
def GraphUnionCardSaid : Prop := Claim7.holds Tryz.pinned (.plain (OpenSpec.ofChange graphUnionSpec)) graphUnionCard

/-- THE TIED CARD OF 'cleatlaw21.GraphEntry'. -/
def graphEntryCard : Claim7 := { stood := { row := graphEntryRow, standIns := [], harness := (true, "5807da7a9acfb6e1880c0f0fa3a91287c417eab32209dffbf163eb2478b2adad"), looks := false }, kinds := [], alts := [], laidByText := true, laidKinds := [.data, .data, .data, .data, .data, .data, .data, .data], laidTests := true, laidLooks := .later }
def GraphEntryCardSaid : Prop := Claim7.holds Tryz.pinned (.plain (OpenSpec.ofChange graphEntrySpec)) graphEntryCard

/-- THE SECOND FORM's CARD OF 'cleatlaw19.ObjDoes'. -/
def objDoesUptoCard : Claim7 := { stood := { row := objDoesUptoRow, standIns := [], harness := (true, "5807da7a9acfb6e1880c0f0fa3a91287c417eab32209dffbf163eb2478b2adad"), looks := false }, kinds := [], alts := [], laidByText := true, laidKinds := [.data, .data, .data, .data, .data, .data, .data, .data], laidTests := true, laidLooks := .later }
def ObjDoesUptoCardSaid : Prop := Claim7.holds Tryz.pinned (.plain (OpenSpec.upto objDoesSpec)) objDoesUptoCard

/-- THE SECOND FORM's CARD OF 'cleatlaw19.ObjBack'. -/
def objBackUptoCard : Claim7 := { stood := { row := objBackUptoRow, standIns := [], harness := (true, "5807da7a9acfb6e1880c0f0fa3a91287c417eab32209dffbf163eb2478b2adad"), looks := false }, kinds := [], alts := [], laidByText := true, laidKinds := [.data, .data, .data, .data, .data, .data, .data, .data], laidTests := true, laidLooks := .later }
def ObjBackUptoCardSaid : Prop := Claim7.holds Tryz.pinned (.plain (OpenSpec.upto objBackSpec)) objBackUptoCard

/-- THE SECOND FORM's CARD OF 'cleatlaw19.ObjOnly'. -/
def objOnlyUptoCard : Claim7 := { stood := { row := objOnlyUptoRow, standIns := [], harness := (true, "5807da7a9acfb6e1880c0f0fa3a91287c417eab32209dffbf163eb2478b2adad"), looks := false }, kinds := [], alts := [], laidByText := true, laidKinds := [.data, .data, .data, .data, .data, .data, .data, .data], laidTests := true, laidLooks := .later }
def ObjOnlyUptoCardSaid : Prop := Claim7.holds Tryz.pinned (.plain (OpenSpec.upto objOnlySpec)) objOnlyUptoCard

/-- THE SECOND FORM's CARD OF 'cleatlaw20.SymDoes'. -/
def symDoesUptoCard : Claim7 := { stood := { row := symDoesUptoRow, standIns := [], harness := (true, "5807da7a9acfb6e1880c0f0fa3a91287c417eab32209dffbf163eb2478b2adad"), looks := false }, kinds := [], alts := [], laidByText := true, laidKinds := [.data, .data, .data, .data, .data, .data, .data, .data], laidTests := true, laidLooks := .later }
def SymDoesUptoCardSaid : Prop := Claim7.holds Tryz.pinned (.plain (OpenSpec.upto symDoesSpec)) symDoesUptoCard

/-- THE SECOND FORM's CARD OF 'cleatlaw20.SymPlaces'. -/
def symPlacesUptoCard : Claim7 := { stood := { row := symPlacesUptoRow, standIns := [], harness := (true, "5807da7a9acfb6e1880c0f0fa3a91287c417eab32209dffbf163eb2478b2adad"), looks := false }, kinds := [], alts := [], laidByText := true, laidKinds := [.data, .data, .data, .data, .data, .data, .data, .data], laidTests := true, laidLooks := .later }
def SymPlacesUptoCardSaid : Prop := Claim7.holds Tryz.pinned (.plain (OpenSpec.upto symPlacesSpec)) symPlacesUptoCard

/-- THE SECOND FORM's CARD OF 'cleatlaw20.SymFault'. -/
def symFaultUptoCard : Claim7 := { stood := { row := symFaultUptoRow, standIns := [], harness := (true, "5807da7a9acfb6e1880c0f0fa3a91287c417eab32209dffbf163eb2478b2adad"), looks := false }, kinds := [], alts := [], laidByText := true, laidKinds := [.data, .data, .data, .data, .data, .data, .data, .data], laidTests := true, laidLooks := .later }
def SymFaultUptoCardSaid : Prop := Claim7.holds Tryz.pinned (.plain (OpenSpec.upto symFaultSpec)) symFaultUptoCard

/-- THE SECOND FORM's CARD OF 'cleatlaw20.SymMore'. -/
def symMoreUptoCard : Claim7 := { stood := { row := symMoreUptoRow, standIns := [], harness := (true, "5807da7a9acfb6e1880c0f0fa3a91287c417eab32209dffbf163eb2478b2adad"), looks := false }, kinds := [], alts := [], laidByText := true, laidKinds := [.data, .data, .data, .data, .data, .data, .data, .data], laidTests := true, laidLooks := .later }
def SymMoreUptoCardSaid : Prop := Claim7.holds Tryz.pinned (.plain (OpenSpec.upto symMoreSpec)) symMoreUptoCard

/-- THE SECOND FORM's CARD OF 'cleatlaw20.SymAlone'. -/
def symAloneUptoCard : Claim7 := { stood := { row := symAloneUptoRow, standIns := [], harness := (true, "5807da7a9acfb6e1880c0f0fa3a91287c417eab32209dffbf163eb2478b2adad"), looks := false }, kinds := [], alts := [], laidByText := true, laidKinds := [.data, .data, .data, .data, .data, .data, .data, .data], laidTests := true, laidLooks := .later }
def SymAloneUptoCardSaid : Prop := Claim7.holds Tryz.pinned (.plain (OpenSpec.upto symAloneSpec)) symAloneUptoCard

/-- THE SECOND FORM's CARD OF 'cleatlaw21.GraphReach'. -/
def graphReachUptoCard : Claim7 := { stood := { row := graphReachUptoRow, standIns := [], harness := (true, "5807da7a9acfb6e1880c0f0fa3a91287c417eab32209dffbf163eb2478b2adad"), looks := false }, kinds := [], alts := [], laidByText := true, laidKinds := [.data, .data, .data, .data, .data, .data, .data, .data], laidTests := true, laidLooks := .later }
def GraphReachUptoCardSaid : Prop := Claim7.holds Tryz.pinned (.plain (OpenSpec.upto graphReachSpec)) graphReachUptoCard

/-- THE SECOND FORM's CARD OF 'cleatlaw21.GraphClosed'. -/
def graphClosedUptoCard : Claim7 := { stood := { row := graphClosedUptoRow, standIns := [], harness := (true, "5807da7a9acfb6e1880c0f0fa3a91287c417eab32209dffbf163eb2478b2adad"), looks := false }, kinds := [], alts := [], laidByText := true, laidKinds := [.data, .data, .data, .data, .data, .data, .data, .data], laidTests := true, laidLooks := .later }
def GraphClosedUptoCardSaid : Prop := Claim7.holds Tryz.pinned (.plain (OpenSpec.upto graphClosedSpec)) graphClosedUptoCard

/-- THE SECOND FORM's CARD OF 'cleatlaw21.GraphUnion'. -/
def graphUnionUptoCard : Claim7 := { stood := { row := graphUnionUptoRow, standIns := [], harness := (true, "5807da7a9acfb6e1880c0f0fa3a91287c417eab32209dffbf163eb2478b2adad"), looks := false }, kinds := [], alts := [], laidByText := true, laidKinds := [.data, .data, .data, .data, .data, .data, .data, .data], laidTests := true, laidLooks := .later }
def GraphUnionUptoCardSaid : Prop := Claim7.holds Tryz.pinned (.plain (OpenSpec.upto graphUnionSpec)) graphUnionUptoCard

/-- THE SECOND FORM's CARD OF 'cleatlaw21.GraphEntry'. -/
def graphEntryUptoCard : Claim7 := { stood := { row := graphEntryUptoRow, standIns := [], harness := (true, "5807da7a9acfb6e1880c0f0fa3a91287c417eab32209dffbf163eb2478b2adad"), looks := false }, kinds := [], alts := [], laidByText := true, laidKinds := [.data, .data, .data, .data, .data, .data, .data, .data], laidTests := true, laidLooks := .later }
def GraphEntryUptoCardSaid : Prop := Claim7.holds Tryz.pinned (.plain (OpenSpec.upto graphEntrySpec)) graphEntryUptoCard
end Rows
end Go.Proofs.YtkdhomofagjcmaaGreatDoor
