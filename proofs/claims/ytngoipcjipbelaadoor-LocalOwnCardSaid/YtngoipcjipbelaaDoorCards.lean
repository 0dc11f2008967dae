/-
  DERIVED. GIVEN WITH THE SEED: THE CARDS: each row of YtngoipcjipbelaaDoorRows.lean that lists a variable, with what it lists TIED to the program's text (the seventh form; the later family's looks); each row that meets fmt, with fmt's text TOLD by the authors' own Lean function (tested against real Go, not proved from fmt's source: count such statements apart). THE CARD IS WHAT COUNTS. Prove the row's statement (the work); the ties are given (YtngoipcjipbelaaDoorTie.lean); close each card by the builder's one call (the guide's Derived/Test/ToyasCard.lean, 'card_holds'). Laid BY PROGRAM, IN A SANDBOX (cutbox-door.mjs). By AI agents, Wed Nov 11 2026. No macro, syntax, notation, axiom, sorry.
-/
import Derived.Test.YtngoipcjipbelaaDoorRows
import GoSem.ClaimSeven
namespace Go.Proofs.YtngoipcjipbelaaDoor
namespace Rows

/-- THE TIED CARD OF 'cleatlaw09.LexBack'. -/
def lexBackCard : Claim7 := { stood := { row := lexBackRow, standIns := [], harness := (true, "e3355ba9ba783beb1f0b5928d4961a2e5e87303a5a43c06914024b0acec85dfb"), looks := true }, kinds := [], alts := [], laidByText := true, laidKinds := [.data, .pinned], laidTests := true, laidLooks := .later }
def LexBackCardSaid : Prop := Claim7.holds Tryd.pinned (.plain (OpenSpec.ofChange lexBackSpec)) lexBackCard

/-- THE TIED CARD OF 'cleatlaw09.LexJoins'. -/
def lexJoinsCard : Claim7 := { stood := { row := lexJoinsRow, standIns := [], harness := (true, "e3355ba9ba783beb1f0b5928d4961a2e5e87303a5a43c06914024b0acec85dfb"), looks := true }, kinds := [], alts := [], laidByText := true, laidKinds := [.data, .pinned], laidTests := true, laidLooks := .later }
def LexJoinsCardSaid : Prop := Claim7.holds Tryd.pinned (.plain (OpenSpec.ofChange lexJoinsSpec)) lexJoinsCard

/-- THE TIED CARD OF 'cleatlaw09.LexComment'. -/
def lexCommentCard : Claim7 := { stood := { row := lexCommentRow, standIns := [], harness := (true, "e3355ba9ba783beb1f0b5928d4961a2e5e87303a5a43c06914024b0acec85dfb"), looks := true }, kinds := [], alts := [], laidByText := true, laidKinds := [.data, .pinned], laidTests := true, laidLooks := .later }
def LexCommentCardSaid : Prop := Claim7.holds Tryd.pinned (.plain (OpenSpec.ofChange lexCommentSpec)) lexCommentCard

/-- THE TIED CARD OF 'cleatlaw09.LexWord'. -/
def lexWordCard : Claim7 := { stood := { row := lexWordRow, standIns := [], harness := (true, "e3355ba9ba783beb1f0b5928d4961a2e5e87303a5a43c06914024b0acec85dfb"), looks := true }, kinds := [], alts := [], laidByText := true, laidKinds := [.data, .pinned], laidTests := true, laidLooks := .later }
def LexWordCardSaid : Prop := Claim7.holds Tryd.pinned (.plain (OpenSpec.ofChange lexWordSpec)) lexWordCard

/-- THE TIED CARD OF 'cleatlaw11.OperandNames'. -/
def operandNamesCard : Claim7 := { stood := { row := operandNamesRow, standIns := [], harness := (true, "e3355ba9ba783beb1f0b5928d4961a2e5e87303a5a43c06914024b0acec85dfb"), looks := true }, kinds := [], alts := [], laidByText := true, laidKinds := [.data, .data, .data, .data, .data, .pinned], laidTests := true, laidLooks := .later }
def OperandNamesCardSaid : Prop := Claim7.holds Tryd.pinned (.plain (OpenSpec.ofChange operandNamesSpec)) operandNamesCard

/-- THE TIED CARD OF 'cleatlaw11.OperandRegs'. -/
def operandRegsCard : Claim7 := { stood := { row := operandRegsRow, standIns := [], harness := (true, "e3355ba9ba783beb1f0b5928d4961a2e5e87303a5a43c06914024b0acec85dfb"), looks := true }, kinds := [], alts := [], laidByText := true, laidKinds := [.data, .data, .data, .data, .data, .pinned], laidTests := true, laidLooks := .later }
def OperandRegsCardSaid : Prop := Claim7.holds Tryd.pinned (.plain (OpenSpec.ofChange operandRegsSpec)) operandRegsCard

/-- THE TIED CARD OF 'cleatlaw11.OperandJoins'. -/
def operandJoinsCard : Claim7 := { stood := { row := operandJoinsRow, standIns := [], harness := (true, "e3355ba9ba783beb1f0b5928d4961a2e5e87303a5a43c06914024b0acec85dfb"), looks := true }, kinds := [], alts := [], laidByText := true, laidKinds := [.data, .data, .data, .data, .data, .pinned], laidTests := true, laidLooks := .later }
def OperandJoinsCardSaid : Prop := Claim7.holds Tryd.pinned (.plain (OpenSpec.ofChange operandJoinsSpec)) operandJoinsCard

/-- THE TIED CARD OF 'cleatlaw14.LocalSplits'. -/
def localSplitsCard : Claim7 := { stood := { row := localSplitsRow, standIns := [], harness := (true, "e3355ba9ba783beb1f0b5928d4961a2e5e87303a5a43c06914024b0acec85dfb"), looks := true }, kinds := [], alts := [], laidByText := true, laidKinds := [.data, .data, .data, .data, .data, .pinned], laidTests := true, laidLooks := .later }
def LocalSplitsCardSaid : Prop := Claim7.holds Tryd.pinned (.plain (OpenSpec.ofChange localSplitsSpec)) localSplitsCard

/-- THE TIED CARD OF 'cleatlaw14.LocalNear'. -/
def localNearCard : Claim7 := { stood := { row := localNearRow, standIns := [], harness := (true, "e3355ba9ba783beb1f0b5928d4961a2e5e87303a5a43c06914024b0acec85dfb"), looks := true }, kinds := [], alts := [], laidByText := true, laidKinds := [.data, .data, .data, .data, .data, .pinned], laidTests := true, laidLooks := .later }
def LocalNearCardSaid : Prop := Claim7.holds Tryd.pinned (.plain (OpenSpec.ofChange localNearSpec)) localNearCard

/-- THE TIED CARD OF 'cleatlaw14.LocalOwn'. -/
def localOwnCard : Claim7 := { stood := { row := localOwnRow, standIns := [], harness := (true, "e3355ba9ba783beb1f0b5928d4961a2e5e87303a5a43c06914024b0acec85dfb"), looks := true }, kinds := [], alts := [], laidByText := true, laidKinds := [.data, .data, .data, .data, .data, .pinned], laidTests := true, laidLooks := .later }
def LocalOwnCardSaid : Prop := Claim7.holds Tryd.pinned (.plain (OpenSpec.ofChange localOwnSpec)) localOwnCard

/-- THE TIED CARD OF 'cleatlaw14.LocalText'. -/
def localTextCard : Claim7 := { stood := { row := localTextRow, standIns := [], harness := (true, "e3355ba9ba783beb1f0b5928d4961a2e5e87303a5a43c06914024b0acec85dfb"), looks := true }, kinds := [], alts := [], laidByText := true, laidKinds := [.data, .data, .data, .data, .data, .pinned], laidTests := true, laidLooks := .later }
def LocalTextCardSaid : Prop := Claim7.holds Tryd.pinned (.plain (OpenSpec.ofChange localTextSpec)) localTextCard

/-- THE SECOND FORM's CARD OF 'cleatlaw09.LexBack'. -/
def lexBackUptoCard : Claim7 := { stood := { row := lexBackUptoRow, standIns := [], harness := (true, "e3355ba9ba783beb1f0b5928d4961a2e5e87303a5a43c06914024b0acec85dfb"), looks := true }, kinds := [], alts := [], laidByText := true, laidKinds := [.data, .pinned], laidTests := true, laidLooks := .later }
def LexBackUptoCardSaid : Prop := Claim7.holds Tryd.pinned (.plain (OpenSpec.upto lexBackSpec)) lexBackUptoCard

/-- THE SECOND FORM's CARD OF 'cleatlaw09.LexJoins'. -/
def lexJoinsUptoCard : Claim7 := { stood := { row := lexJoinsUptoRow, standIns := [], harness := (true, "e3355ba9ba783beb1f0b5928d4961a2e5e87303a5a43c06914024b0acec85dfb"), looks := true }, kinds := [], alts := [], laidByText := true, laidKinds := [.data, .pinned], laidTests := true, laidLooks := .later }
def LexJoinsUptoCardSaid : Prop := Claim7.holds Tryd.pinned (.plain (OpenSpec.upto lexJoinsSpec)) lexJoinsUptoCard

/-- THE SECOND FORM's CARD OF 'cleatlaw09.LexComment'. -/
def lexCommentUptoCard : Claim7 := { stood := { row := lexCommentUptoRow, standIns := [], harness := (true, "e3355ba9ba783beb1f0b5928d4961a2e5e87303a5a43c06914024b0acec85dfb"), looks := true }, kinds := [], alts := [], laidByText := true, laidKinds := [.data, .pinned], laidTests := true, laidLooks := .later }
def LexCommentUptoCardSaid : Prop := Claim7.holds Tryd.pinned (.plain (OpenSpec.upto lexCommentSpec)) lexCommentUptoCard

/-- THE SECOND FORM's CARD OF 'cleatlaw09.LexWord'. -/
def lexWordUptoCard : Claim7 := { stood := { row := lexWordUptoRow, standIns := [], harness := (true, "e3355ba9ba783beb1f0b5928d4961a2e5e87303a5a43c06914024b0acec85dfb"), looks := true }, kinds := [], alts := [], laidByText := true, laidKinds := [.data, .pinned], laidTests := true, laidLooks := .later }
def LexWordUptoCardSaid : Prop := Claim7.holds Tryd.pinned (.plain (OpenSpec.upto lexWordSpec)) lexWordUptoCard

/-- THE SECOND FORM's CARD OF 'cleatlaw11.OperandNames'. -/
def operandNamesUptoCard : Claim7 := { stood := { row := operandNamesUptoRow, standIns := [], harness := (true, "e3355ba9ba783beb1f0b5928d4961a2e5e87303a5a43c06914024b0acec85dfb"), looks := true }, kinds := [], alts := [], laidByText := true, laidKinds := [.data, .data, .data, .data, .data, .pinned], laidTests := true, laidLooks := .later }
def OperandNamesUptoCardSaid : Prop := Claim7.holds Tryd.pinned (.plain (OpenSpec.upto operandNamesSpec)) operandNamesUptoCard

/-- THE SECOND FORM's CARD OF 'cleatlaw11.OperandRegs'. -/
def operandRegsUptoCard : Claim7 := { stood := { row := operandRegsUptoRow, standIns := [], harness := (true, "e3355ba9ba783beb1f0b5928d4961a2e5e87303a5a43c06914024b0acec85dfb"), looks := true }, kinds := [], alts := [], laidByText := true, laidKinds := [.data, .data, .data, .data, .data, .pinned], laidTests := true, laidLooks := .later }
def OperandRegsUptoCardSaid : Prop := Claim7.holds Tryd.pinned (.plain (OpenSpec.upto operandRegsSpec)) operandRegsUptoCard

/-- THE SECOND FORM's CARD OF 'cleatlaw11.OperandJoins'. -/
def operandJoinsUptoCard : Claim7 := { stood := { row := operandJoinsUptoRow, standIns := [], harness := (true, "e3355ba9ba783beb1f0b5928d4961a2e5e87303a5a43c06914024b0acec85dfb"), looks := true }, kinds := [], alts := [], laidByText := true, laidKinds := [.data, .data, .data, .data, .data, .pinned], laidTests := true, laidLooks := .later }
def OperandJoinsUptoCardSaid : Prop := Claim7.holds Tryd.pinned (.plain (OpenSpec.upto operandJoinsSpec)) operandJoinsUptoCard

/-- THE SECOND FORM's CARD OF 'cleatlaw14.LocalSplits'. -/
def localSplitsUptoCard : Claim7 := { stood := { row := localSplitsUptoRow, standIns := [], harness := (true, "e3355ba9ba783beb1f0b5928d4961a2e5e87303a5a43c06914024b0acec85dfb"), looks := true }, kinds := [], alts := [], laidByText := true, laidKinds := [.data, .data, .data, .data, .data, .pinned], laidTests := true, laidLooks := .later }
def LocalSplitsUptoCardSaid : Prop := Claim7.holds Tryd.pinned (.plain (OpenSpec.upto localSplitsSpec)) localSplitsUptoCard

/-- THE SECOND FORM's CARD OF 'cleatlaw14.LocalNear'. -/
def localNearUptoCard : Claim7 := { stood := { row := localNearUptoRow, standIns := [], harness := (true, "e3355ba9ba783beb1f0b5928d4961a2e5e87303a5a43c06914024b0acec85dfb"), looks := true }, kinds := [], alts := [], laidByText := true, laidKinds := [.data, .data, .data, .data, .data, .pinned], laidTests := true, laidLooks := .later }
def LocalNearUptoCardSaid : Prop := Claim7.holds Tryd.pinned (.plain (OpenSpec.upto localNearSpec)) localNearUptoCard

/-- THE SECOND FORM's CARD OF 'cleatlaw14.LocalOwn'. -/
def localOwnUptoCard : Claim7 := { stood := { row := localOwnUptoRow, standIns := [], harness := (true, "e3355ba9ba783beb1f0b5928d4961a2e5e87303a5a43c06914024b0acec85dfb"), looks := true }, kinds := [], alts := [], laidByText := true, laidKinds := [.data, .data, .data, .data, .data, .pinned], laidTests := true, laidLooks := .later }
def LocalOwnUptoCardSaid : Prop := Claim7.holds Tryd.pinned (.plain (OpenSpec.upto localOwnSpec)) localOwnUptoCard

/-- THE SECOND FORM's CARD OF 'cleatlaw14.LocalText'. -/
def localTextUptoCard : Claim7 := { stood := { row := localTextUptoRow, standIns := [], harness := (true, "e3355ba9ba783beb1f0b5928d4961a2e5e87303a5a43c06914024b0acec85dfb"), looks := true }, kinds := [], alts := [], laidByText := true, laidKinds := [.data, .data, .data, .data, .data, .pinned], laidTests := true, laidLooks := .later }
def LocalTextUptoCardSaid : Prop := Claim7.holds Tryd.pinned (.plain (OpenSpec.upto localTextSpec)) localTextUptoCard
end Rows
end Go.Proofs.YtngoipcjipbelaaDoor
