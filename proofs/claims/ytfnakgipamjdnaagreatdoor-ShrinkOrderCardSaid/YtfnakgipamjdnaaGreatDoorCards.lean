/-
  DERIVED. GIVEN WITH THE SEED: THE CARDS: each row of YtfnakgipamjdnaaGreatDoorRows.lean that lists a variable, with what it lists TIED to the program's text (the seventh form; the later family's looks); each row that meets fmt, with fmt's text TOLD by the authors' own Lean function (tested against real Go, not proved from fmt's source: count such statements apart). THE CARD IS WHAT COUNTS. Prove the row's statement (the work); the ties are given (YtfnakgipamjdnaaGreatDoorTie.lean); close each card by the builder's one call (the guide's Derived/Test/ToyasCard.lean, 'card_holds'). Laid BY PROGRAM, IN A SANDBOX (cutbox-door.mjs). By AI agents, Wed Nov 11 2026. No macro, syntax, notation, axiom, sorry.
-/
import Derived.Test.YtfnakgipamjdnaaGreatDoorRows
import GoSem.ClaimSeven
namespace Go.Proofs.YtfnakgipamjdnaaGreatDoor
namespace Rows

/-- THE TIED CARD OF 'cleatlaw19.ObjDoes'. -/
def objDoesCard : Claim7 := { stood := { row := objDoesRow, standIns := [], harness := (true, "a185a845d2a28a56dbc29eebf2cc92e5469ff424f9c354a96bffac4ff5bcbae3"), looks := false }, kinds := [], alts := [], laidByText := true, laidKinds := [.data, .data, .data, .data, .data, .data, .data, .data], laidTests := true, laidLooks := .later }
def ObjDoesCardSaid : Prop := Claim7.holds Tryz.pinned (.plain (OpenSpec.ofChange objDoesSpec)) objDoesCard

/-- THE TIED CARD OF 'cleatlaw20.SymDoes'. -/
def symDoesCard : Claim7 := { stood := { row := symDoesRow, standIns := [], harness := (true, "a185a845d2a28a56dbc29eebf2cc92e5469ff424f9c354a96bffac4ff5bcbae3"), looks := false }, kinds := [], alts := [], laidByText := true, laidKinds := [.data, .data, .data, .data, .data, .data, .data, .data], laidTests := true, laidLooks := .later }
def SymDoesCardSaid : Prop := Claim7.holds Tryz.pinned (.plain (OpenSpec.ofChange symDoesSpec)) symDoesCard

/-- THE TIED CARD OF 'cleatlaw21.GraphReach'. -/
def graphReachCard : Claim7 := { stood := { row := graphReachRow, standIns := [], harness := (true, "a185a845d2a28a56dbc29eebf2cc92e5469ff424f9c354a96bffac4ff5bcbae3"), looks := false }, kinds := [], alts := [], laidByText := true, laidKinds := [.data, .data, .data, .data, .data, .data, .data, .data], laidTests := true, laidLooks := .later }
def GraphReachCardSaid : Prop := Claim7.holds Tryz.pinned (.plain (OpenSpec.ofChange graphReachSpec)) graphReachCard

/-- THE TIED CARD OF 'cleatlaw21.GraphEntry'. -/
def graphEntryCard : Claim7 := { stood := { row := graphEntryRow, standIns := [], harness := (true, "a185a845d2a28a56dbc29eebf2cc92e5469ff424f9c354a96bffac4ff5bcbae3"), looks := false }, kinds := [], alts := [], laidByText := true, laidKinds := [.data, .data, .data, .data, .data, .data, .data, .data], laidTests := true, laidLooks := .later }
def GraphEntryCardSaid : Prop := Claim7.holds Tryz.pinned (.plain (OpenSpec.ofChange graphEntrySpec)) graphEntryCard

/-- THE TIED CARD OF 'cleatlaw22.FoldDoes'. -/
def foldDoesCard : Claim7 := { stood := { row := foldDoesRow, standIns := [], harness := (true, "a185a845d2a28a56dbc29eebf2cc92e5469ff424f9c354a96bffac4ff5bcbae3"), looks := false }, kinds := [], alts := [], laidByText := true, laidKinds := [.data, .data, .data, .data, .data, .data, .data, .data], laidTests := true, laidLooks := .later }
def FoldDoesCardSaid : Prop := Claim7.holds Tryz.pinned (.plain (OpenSpec.ofChange foldDoesSpec)) foldDoesCard

/-- THE TIED CARD OF 'cleatlaw22.FoldGood'. -/
def foldGoodCard : Claim7 := { stood := { row := foldGoodRow, standIns := [], harness := (true, "a185a845d2a28a56dbc29eebf2cc92e5469ff424f9c354a96bffac4ff5bcbae3"), looks := false }, kinds := [], alts := [], laidByText := true, laidKinds := [.data, .data, .data, .data, .data, .data, .data, .data], laidTests := true, laidLooks := .later }
def FoldGoodCardSaid : Prop := Claim7.holds Tryz.pinned (.plain (OpenSpec.ofChange foldGoodSpec)) foldGoodCard

/-- THE TIED CARD OF 'cleatlaw22.FoldCoarse'. -/
def foldCoarseCard : Claim7 := { stood := { row := foldCoarseRow, standIns := [], harness := (true, "a185a845d2a28a56dbc29eebf2cc92e5469ff424f9c354a96bffac4ff5bcbae3"), looks := false }, kinds := [], alts := [], laidByText := true, laidKinds := [.data, .data, .data, .data, .data, .data, .data, .data], laidTests := true, laidLooks := .later }
def FoldCoarseCardSaid : Prop := Claim7.holds Tryz.pinned (.plain (OpenSpec.ofChange foldCoarseSpec)) foldCoarseCard

/-- THE TIED CARD OF 'cleatlaw22.FoldSaved'. -/
def foldSavedCard : Claim7 := { stood := { row := foldSavedRow, standIns := [], harness := (true, "a185a845d2a28a56dbc29eebf2cc92e5469ff424f9c354a96bffac4ff5bcbae3"), looks := false }, kinds := [], alts := [], laidByText := true, laidKinds := [.data, .data, .data, .data, .data, .data, .data, .data], laidTests := true, laidLooks := .later }
def FoldSavedCardSaid : Prop := Claim7.holds Tryz.pinned (.plain (OpenSpec.ofChange foldSavedSpec)) foldSavedCard

/-- THE TIED CARD OF 'cleatlaw23.ShrinkTells'. -/
def shrinkTellsCard : Claim7 := { stood := { row := shrinkTellsRow, standIns := [], harness := (true, "a185a845d2a28a56dbc29eebf2cc92e5469ff424f9c354a96bffac4ff5bcbae3"), looks := false }, kinds := [], alts := [], laidByText := true, laidKinds := [.data, .data, .data, .data, .data, .data, .data, .data], laidTests := true, laidLooks := .later }
def ShrinkTellsCardSaid : Prop := Claim7.holds Tryz.pinned (.plain (OpenSpec.ofChange shrinkTellsSpec)) shrinkTellsCard

/-- THE TIED CARD OF 'cleatlaw23.ShrinkReached'. -/
def shrinkReachedCard : Claim7 := { stood := { row := shrinkReachedRow, standIns := [], harness := (true, "a185a845d2a28a56dbc29eebf2cc92e5469ff424f9c354a96bffac4ff5bcbae3"), looks := false }, kinds := [], alts := [], laidByText := true, laidKinds := [.data, .data, .data, .data, .data, .data, .data, .data], laidTests := true, laidLooks := .later }
def ShrinkReachedCardSaid : Prop := Claim7.holds Tryz.pinned (.plain (OpenSpec.ofChange shrinkReachedSpec)) shrinkReachedCard

/-- THE TIED CARD OF 'cleatlaw23.ShrinkLeft'. -/
def shrinkLeftCard : Claim7 := { stood := { row := shrinkLeftRow, standIns := [], harness := (true, "a185a845d2a28a56dbc29eebf2cc92e5469ff424f9c354a96bffac4ff5bcbae3"), looks := false }, kinds := [], alts := [], laidByText := true, laidKinds := [.data, .data, .data, .data, .data, .data, .data, .data], laidTests := true, laidLooks := .later }
def ShrinkLeftCardSaid : Prop := Claim7.holds Tryz.pinned (.plain (OpenSpec.ofChange shrinkLeftSpec)) shrinkLeftCard

/-- THE TIED CARD OF 'cleatlaw23.ShrinkOrder'. -/
def shrinkOrderCard : Claim7 := { stood := { row := shrinkOrderRow, standIns := [], harness := (true, "a185a845d2a28a56dbc29eebf2cc92e5469ff424f9c354a96bffac4ff5bcbae3"), looks := false }, kinds := [], alts := [], laidByText := true, laidKinds := [.data, .data, .data, .data, .data, .data, .data, .data], laidTests := true, laidLooks := .later }
def ShrinkOrderCardSaid : Prop := Claim7.holds Tryz.pinned (.plain (OpenSpec.ofChange shrinkOrderSpec)) shrinkOrderCard

/-- THE SECOND FORM's CARD OF 'cleatlaw19.ObjDoes'. -/
def objDoesUptoCard : Claim7 := { stood := { row := objDoesUptoRow, standIns := [], harness := (true, "a185a845d2a28a56dbc29eebf2cc92e5469ff424f9c354a96bffac4ff5bcbae3"), looks := false }, kinds := [], alts := [], laidByText := true, laidKinds := [.data, .data, .data, .data, .data, .data, .data, .data], laidTests := true, laidLooks := .later }
def ObjDoesUptoCardSaid : Prop := Claim7.holds Tryz.pinned (.plain (OpenSpec.upto objDoesSpec)) objDoesUptoCard

/-- THE SECOND FORM's CARD OF 'cleatlaw20.SymDoes'. -/
def symDoesUptoCard : Claim7 := { stood := { row := symDoesUptoRow, standIns := [], harness := (true, "a185a845d2a28a56dbc29eebf2cc92e5469ff424f9c354a96bffac4ff5bcbae3"), looks := false }, kinds := [], alts := [], laidByText := true, laidKinds := [.data, .data, .data, .data, .data, .data, .data, .data], laidTests := true, laidLooks := .later }
def SymDoesUptoCardSaid : Prop := Claim7.holds Tryz.pinned (.plain (OpenSpec.upto symDoesSpec)) symDoesUptoCard

/-- THE SECOND FORM's CARD OF 'cleatlaw21.GraphReach'. -/
def graphReachUptoCard : Claim7 := { stood := { row := graphReachUptoRow, standIns := [], harness := (true, "a185a845d2a28a56dbc29eebf2cc92e5469ff424f9c354a96bffac4ff5bcbae3"), looks := false }, kinds := [], alts := [], laidByText := true, laidKinds := [.data, .data, .data, .data, .data, .data, .data, .data], laidTests := true, laidLooks := .later }
def GraphReachUptoCardSaid : Prop := Claim7.holds Tryz.pinned (.plain (OpenSpec.upto graphReachSpec)) graphReachUptoCard

/-- THE SECOND FORM's CARD OF 'cleatlaw21.GraphEntry'. -/
def graphEntryUptoCard : Claim7 := { stood := { row := graphEntryUptoRow, standIns := [], harness := (true, "a185a845d2a28a56dbc29eebf2cc92e5469ff424f9c354a96bffac4ff5bcbae3"), looks := false }, kinds := [], alts := [], laidByText := true, laidKinds := [.data, .data, .data, .data, .data, .data, .data, .data], laidTests := true, laidLooks := .later }
def GraphEntryUptoCardSaid : Prop := Claim7.holds Tryz.pinned (.plain (OpenSpec.upto graphEntrySpec)) graphEntryUptoCard

/-- THE SECOND FORM's CARD OF 'cleatlaw22.FoldDoes'. -/
def foldDoesUptoCard : Claim7 := { stood := { row := foldDoesUptoRow, standIns := [], harness := (true, "a185a845d2a28a56dbc29eebf2cc92e5469ff424f9c354a96bffac4ff5bcbae3"), looks := false }, kinds := [], alts := [], laidByText := true, laidKinds := [.data, .data, .data, .data, .data, .data, .data, .data], laidTests := true, laidLooks := .later }
def FoldDoesUptoCardSaid : Prop := Claim7.holds Tryz.pinned (.plain (OpenSpec.upto foldDoesSpec)) foldDoesUptoCard

/-- THE SECOND FORM's CARD OF 'cleatlaw22.FoldGood'. -/
def foldGoodUptoCard : Claim7 := { stood := { row := foldGoodUptoRow, standIns := [], harness := (true, "a185a845d2a28a56dbc29eebf2cc92e5469ff424f9c354a96bffac4ff5bcbae3"), looks := false }, kinds := [], alts := [], laidByText := true, laidKinds := [.data, .data, .data, .data, .data, .data, .data, .data], laidTests := true, laidLooks := .later }
def FoldGoodUptoCardSaid : Prop := Claim7.holds Tryz.pinned (.plain (OpenSpec.upto foldGoodSpec)) foldGoodUptoCard

/-- THE SECOND FORM's CARD OF 'cleatlaw22.FoldCoarse'. -/
def foldCoarseUptoCard : Claim7 := { stood := { row := foldCoarseUptoRow, standIns := [], harness := (true, "a185a845d2a28a56dbc29eebf2cc92e5469ff424f9c354a96bffac4ff5bcbae3"), looks := false }, kinds := [], alts := [], laidByText := true, laidKinds := [.data, .data, .data, .data, .data, .data, .data, .data], laidTests := true, laidLooks := .later }
def FoldCoarseUptoCardSaid : Prop := Claim7.holds Tryz.pinned (.plain (OpenSpec.upto foldCoarseSpec)) foldCoarseUptoCard

/-- THE SECOND FORM's CARD OF 'cleatlaw22.FoldSaved'. -/
def foldSavedUptoCard : Claim7 := { stood := { row := foldSavedUptoRow, standIns := [], harness := (true, "a185a845d2a28a56dbc29eebf2cc92e5469ff424f9c354a96bffac4ff5bcbae3"), looks := false }, kinds := [], alts := [], laidByText := true, laidKinds := [.data, .data, .data, .data, .data, .data, .data, .data], laidTests := true, laidLooks := .later }
def FoldSavedUptoCardSaid : Prop := Claim7.holds Tryz.pinned (.plain (OpenSpec.upto foldSavedSpec)) foldSavedUptoCard

/-- THE SECOND FORM's CARD OF 'cleatlaw23.ShrinkTells'. -/
def shrinkTellsUptoCard : Claim7 := { stood := { row := shrinkTellsUptoRow, standIns := [], harness := (true, "a185a845d2a28a56dbc29eebf2cc92e5469ff424f9c354a96bffac4ff5bcbae3"), looks := false }, kinds := [], alts := [], laidByText := true, laidKinds := [.data, .data, .data, .data, .data, .data, .data, .data], laidTests := true, laidLooks := .later }
def ShrinkTellsUptoCardSaid : Prop := Claim7.holds Tryz.pinned (.plain (OpenSpec.upto shrinkTellsSpec)) shrinkTellsUptoCard

/-- THE SECOND FORM's CARD OF 'cleatlaw23.ShrinkReached'. -/
def shrinkReachedUptoCard : Claim7 := { stood := { row := shrinkReachedUptoRow, standIns := [], harness := (true, "a185a845d2a28a56dbc29eebf2cc92e5469ff424f9c354a96bffac4ff5bcbae3"), looks := false }, kinds := [], alts := [], laidByText := true, laidKinds := [.data, .data, .data, .data, .data, .data, .data, .data], laidTests := true, laidLooks := .later }
def ShrinkReachedUptoCardSaid : Prop := Claim7.holds Tryz.pinned (.plain (OpenSpec.upto shrinkReachedSpec)) shrinkReachedUptoCard

/-- THE SECOND FORM's CARD OF 'cleatlaw23.ShrinkLeft'. -/
def shrinkLeftUptoCard : Claim7 := { stood := { row := shrinkLeftUptoRow, standIns := [], harness := (true, "a185a845d2a28a56dbc29eebf2cc92e5469ff424f9c354a96bffac4ff5bcbae3"), looks := false }, kinds := [], alts := [], laidByText := true, laidKinds := [.data, .data, .data, .data, .data, .data, .data, .data], laidTests := true, laidLooks := .later }
def ShrinkLeftUptoCardSaid : Prop := Claim7.holds Tryz.pinned (.plain (OpenSpec.upto shrinkLeftSpec)) shrinkLeftUptoCard

/-- THE SECOND FORM's CARD OF 'cleatlaw23.ShrinkOrder'. -/
def shrinkOrderUptoCard : Claim7 := { stood := { row := shrinkOrderUptoRow, standIns := [], harness := (true, "a185a845d2a28a56dbc29eebf2cc92e5469ff424f9c354a96bffac4ff5bcbae3"), looks := false }, kinds := [], alts := [], laidByText := true, laidKinds := [.data, .data, .data, .data, .data, .data, .data, .data], laidTests := true, laidLooks := .later }
def ShrinkOrderUptoCardSaid : Prop := Claim7.holds Tryz.pinned (.plain (OpenSpec.upto shrinkOrderSpec)) shrinkOrderUptoCard
end Rows
end Go.Proofs.YtfnakgipamjdnaaGreatDoor
