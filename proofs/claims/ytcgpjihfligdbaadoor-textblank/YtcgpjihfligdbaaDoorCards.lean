/-
  DERIVED. GIVEN WITH THE SEED: THE CARDS: each row of YtcgpjihfligdbaaDoorRows.lean that lists a variable, with what it lists TIED to the program's text (the seventh form; the later family's looks); each row that meets fmt, with fmt's text TOLD by the authors' own Lean function (tested against real Go, not proved from fmt's source: count such statements apart). THE CARD IS WHAT COUNTS. Prove the row's statement (the work); the ties are given (YtcgpjihfligdbaaDoorTie.lean); close each card by the builder's one call (the guide's Derived/Test/ToyasCard.lean, 'card_holds'). Laid BY PROGRAM, IN A SANDBOX (cutbox-door.mjs). By AI agents, Wed Nov 11 2026. No macro, syntax, notation, axiom, sorry.
-/
import Derived.Test.YtcgpjihfligdbaaDoorRows
import GoSem.ClaimSeven
namespace Go.Proofs.YtcgpjihfligdbaaDoor
namespace Rows

/-- THE TIED CARD OF 'sklaw1.TermLift'. -/
def termLiftCard : Claim7 := { stood := { row := termLiftRow, standIns := [], harness := (true, "9e275fc848f89575549a900933a7210efd3bef96b90b38a62f9faaa1cf41cde8"), looks := true }, kinds := [], alts := [], laidByText := true, laidKinds := [.data, .data, .data, .sentinel, .sentinel], laidTests := true, laidLooks := .later }
def TermLiftCardSaid : Prop := Claim7.holds Tryd.pinned (.plain (OpenSpec.ofChange termLiftSpec)) termLiftCard

/-- THE TIED CARD OF 'sklaw1.TermPuts'. -/
def termPutsCard : Claim7 := { stood := { row := termPutsRow, standIns := [], harness := (true, "9e275fc848f89575549a900933a7210efd3bef96b90b38a62f9faaa1cf41cde8"), looks := true }, kinds := [], alts := [], laidByText := true, laidKinds := [.data, .data, .data, .sentinel, .sentinel], laidTests := true, laidLooks := .later }
def TermPutsCardSaid : Prop := Claim7.holds Tryd.pinned (.plain (OpenSpec.ofChange termPutsSpec)) termPutsCard

/-- THE TIED CARD OF 'sklaw3.TextTells'. -/
def textTellsCard : Claim7 := { stood := { row := textTellsRow, standIns := [], harness := (true, "9e275fc848f89575549a900933a7210efd3bef96b90b38a62f9faaa1cf41cde8"), looks := true }, kinds := [], alts := [], laidByText := true, laidKinds := [.data, .data, .data, .sentinel, .sentinel, .data], laidTests := true, laidLooks := .later }
def TextTellsCardSaid : Prop := Claim7.holds Tryd.pinned (.plain (OpenSpec.ofChange textTellsSpec)) textTellsCard

/-- THE TIED CARD OF 'sklaw3.TextTurns'. -/
def textTurnsCard : Claim7 := { stood := { row := textTurnsRow, standIns := [], harness := (true, "9e275fc848f89575549a900933a7210efd3bef96b90b38a62f9faaa1cf41cde8"), looks := true }, kinds := [], alts := [], laidByText := true, laidKinds := [.data, .data, .data, .sentinel, .sentinel, .data], laidTests := true, laidLooks := .later }
def TextTurnsCardSaid : Prop := Claim7.holds Tryd.pinned (.plain (OpenSpec.ofChange textTurnsSpec)) textTurnsCard

/-- THE TIED CARD OF 'sklaw3.TextBlank'. -/
def textBlankCard : Claim7 := { stood := { row := textBlankRow, standIns := [], harness := (true, "9e275fc848f89575549a900933a7210efd3bef96b90b38a62f9faaa1cf41cde8"), looks := true }, kinds := [], alts := [], laidByText := true, laidKinds := [.data, .data, .data, .sentinel, .sentinel, .data], laidTests := true, laidLooks := .later }
def TextBlankCardSaid : Prop := Claim7.holds Tryd.pinned (.plain (OpenSpec.ofChange textBlankSpec)) textBlankCard

/-- THE TIED CARD OF 'sklaw4.StepType'. -/
def stepTypeCard : Claim7 := { stood := { row := stepTypeRow, standIns := [], harness := (true, "9e275fc848f89575549a900933a7210efd3bef96b90b38a62f9faaa1cf41cde8"), looks := true }, kinds := [], alts := [], laidByText := true, laidKinds := [.data, .data, .data, .sentinel, .sentinel], laidTests := true, laidLooks := .later }
def StepTypeCardSaid : Prop := Claim7.holds Tryd.pinned (.plain (OpenSpec.ofChange stepTypeSpec)) stepTypeCard

/-- THE TIED CARD OF 'sklaw4.StepWay'. -/
def stepWayCard : Claim7 := { stood := { row := stepWayRow, standIns := [], harness := (true, "9e275fc848f89575549a900933a7210efd3bef96b90b38a62f9faaa1cf41cde8"), looks := true }, kinds := [], alts := [], laidByText := true, laidKinds := [.data, .data, .data, .sentinel, .sentinel], laidTests := true, laidLooks := .later }
def StepWayCardSaid : Prop := Claim7.holds Tryd.pinned (.plain (OpenSpec.ofChange stepWaySpec)) stepWayCard

/-- THE SECOND FORM's CARD OF 'sklaw1.TermLift'. -/
def termLiftUptoCard : Claim7 := { stood := { row := termLiftUptoRow, standIns := [], harness := (true, "9e275fc848f89575549a900933a7210efd3bef96b90b38a62f9faaa1cf41cde8"), looks := true }, kinds := [], alts := [], laidByText := true, laidKinds := [.data, .data, .data, .sentinel, .sentinel], laidTests := true, laidLooks := .later }
def TermLiftUptoCardSaid : Prop := Claim7.holds Tryd.pinned (.plain (OpenSpec.upto termLiftSpec)) termLiftUptoCard

/-- THE SECOND FORM's CARD OF 'sklaw1.TermPuts'. -/
def termPutsUptoCard : Claim7 := { stood := { row := termPutsUptoRow, standIns := [], harness := (true, "9e275fc848f89575549a900933a7210efd3bef96b90b38a62f9faaa1cf41cde8"), looks := true }, kinds := [], alts := [], laidByText := true, laidKinds := [.data, .data, .data, .sentinel, .sentinel], laidTests := true, laidLooks := .later }
def TermPutsUptoCardSaid : Prop := Claim7.holds Tryd.pinned (.plain (OpenSpec.upto termPutsSpec)) termPutsUptoCard

/-- THE SECOND FORM's CARD OF 'sklaw3.TextTells'. -/
def textTellsUptoCard : Claim7 := { stood := { row := textTellsUptoRow, standIns := [], harness := (true, "9e275fc848f89575549a900933a7210efd3bef96b90b38a62f9faaa1cf41cde8"), looks := true }, kinds := [], alts := [], laidByText := true, laidKinds := [.data, .data, .data, .sentinel, .sentinel, .data], laidTests := true, laidLooks := .later }
def TextTellsUptoCardSaid : Prop := Claim7.holds Tryd.pinned (.plain (OpenSpec.upto textTellsSpec)) textTellsUptoCard

/-- THE SECOND FORM's CARD OF 'sklaw3.TextTurns'. -/
def textTurnsUptoCard : Claim7 := { stood := { row := textTurnsUptoRow, standIns := [], harness := (true, "9e275fc848f89575549a900933a7210efd3bef96b90b38a62f9faaa1cf41cde8"), looks := true }, kinds := [], alts := [], laidByText := true, laidKinds := [.data, .data, .data, .sentinel, .sentinel, .data], laidTests := true, laidLooks := .later }
def TextTurnsUptoCardSaid : Prop := Claim7.holds Tryd.pinned (.plain (OpenSpec.upto textTurnsSpec)) textTurnsUptoCard

/-- THE SECOND FORM's CARD OF 'sklaw3.TextBlank'. -/
def textBlankUptoCard : Claim7 := { stood := { row := textBlankUptoRow, standIns := [], harness := (true, "9e275fc848f89575549a900933a7210efd3bef96b90b38a62f9faaa1cf41cde8"), looks := true }, kinds := [], alts := [], laidByText := true, laidKinds := [.data, .data, .data, .sentinel, .sentinel, .data], laidTests := true, laidLooks := .later }
def TextBlankUptoCardSaid : Prop := Claim7.holds Tryd.pinned (.plain (OpenSpec.upto textBlankSpec)) textBlankUptoCard

/-- THE SECOND FORM's CARD OF 'sklaw4.StepType'. -/
def stepTypeUptoCard : Claim7 := { stood := { row := stepTypeUptoRow, standIns := [], harness := (true, "9e275fc848f89575549a900933a7210efd3bef96b90b38a62f9faaa1cf41cde8"), looks := true }, kinds := [], alts := [], laidByText := true, laidKinds := [.data, .data, .data, .sentinel, .sentinel], laidTests := true, laidLooks := .later }
def StepTypeUptoCardSaid : Prop := Claim7.holds Tryd.pinned (.plain (OpenSpec.upto stepTypeSpec)) stepTypeUptoCard

/-- THE SECOND FORM's CARD OF 'sklaw4.StepWay'. -/
def stepWayUptoCard : Claim7 := { stood := { row := stepWayUptoRow, standIns := [], harness := (true, "9e275fc848f89575549a900933a7210efd3bef96b90b38a62f9faaa1cf41cde8"), looks := true }, kinds := [], alts := [], laidByText := true, laidKinds := [.data, .data, .data, .sentinel, .sentinel], laidTests := true, laidLooks := .later }
def StepWayUptoCardSaid : Prop := Claim7.holds Tryd.pinned (.plain (OpenSpec.upto stepWaySpec)) stepWayUptoCard
end Rows
end Go.Proofs.YtcgpjihfligdbaaDoor
