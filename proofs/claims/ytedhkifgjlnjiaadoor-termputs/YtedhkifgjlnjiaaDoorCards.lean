/-
  DERIVED. GIVEN WITH THE SEED: THE CARDS: each row of YtedhkifgjlnjiaaDoorRows.lean that lists a variable, with what it lists TIED to the program's text (the seventh form; the later family's looks); each row that meets fmt, with fmt's text TOLD by the authors' own Lean function (tested against real Go, not proved from fmt's source: count such statements apart). THE CARD IS WHAT COUNTS. Prove the row's statement (the work); the ties are given (YtedhkifgjlnjiaaDoorTie.lean); close each card by the builder's one call (the guide's Derived/Test/ToyasCard.lean, 'card_holds'). Laid BY PROGRAM, IN A SANDBOX (cutbox-door.mjs). By AI agents, Wed Nov 11 2026. No macro, syntax, notation, axiom, sorry.
-/
import Derived.Test.YtedhkifgjlnjiaaDoorRows
import GoSem.ClaimSeven
namespace Go.Proofs.YtedhkifgjlnjiaaDoor
namespace Rows

/-- THE TIED CARD OF 'sklaw1.TermLift'. -/
def termLiftCard : Claim7 := { stood := { row := termLiftRow, standIns := [], harness := (true, "d382d1b358da5a108e7089be8f1864ca7a839cb856934a78c6a6d7e3e268ff43"), looks := true }, kinds := [], alts := [], laidByText := true, laidKinds := [.data, .data, .data, .sentinel, .sentinel], laidTests := true, laidLooks := .later }
def TermLiftCardSaid : Prop := Claim7.holds Tryd.pinned (.plain (OpenSpec.ofChange termLiftSpec)) termLiftCard

/-- THE TIED CARD OF 'sklaw1.TermPuts'. -/
def termPutsCard : Claim7 := { stood := { row := termPutsRow, standIns := [], harness := (true, "d382d1b358da5a108e7089be8f1864ca7a839cb856934a78c6a6d7e3e268ff43"), looks := true }, kinds := [], alts := [], laidByText := true, laidKinds := [.data, .data, .data, .sentinel, .sentinel], laidTests := true, laidLooks := .later }
def TermPutsCardSaid : Prop := Claim7.holds Tryd.pinned (.plain (OpenSpec.ofChange termPutsSpec)) termPutsCard

/-- THE SECOND FORM's CARD OF 'sklaw1.TermLift'. -/
def termLiftUptoCard : Claim7 := { stood := { row := termLiftUptoRow, standIns := [], harness := (true, "d382d1b358da5a108e7089be8f1864ca7a839cb856934a78c6a6d7e3e268ff43"), looks := true }, kinds := [], alts := [], laidByText := true, laidKinds := [.data, .data, .data, .sentinel, .sentinel], laidTests := true, laidLooks := .later }
def TermLiftUptoCardSaid : Prop := Claim7.holds Tryd.pinned (.plain (OpenSpec.upto termLiftSpec)) termLiftUptoCard

/-- THE SECOND FORM's CARD OF 'sklaw1.TermPuts'. -/
def termPutsUptoCard : Claim7 := { stood := { row := termPutsUptoRow, standIns := [], harness := (true, "d382d1b358da5a108e7089be8f1864ca7a839cb856934a78c6a6d7e3e268ff43"), looks := true }, kinds := [], alts := [], laidByText := true, laidKinds := [.data, .data, .data, .sentinel, .sentinel], laidTests := true, laidLooks := .later }
def TermPutsUptoCardSaid : Prop := Claim7.holds Tryd.pinned (.plain (OpenSpec.upto termPutsSpec)) termPutsUptoCard
end Rows
end Go.Proofs.YtedhkifgjlnjiaaDoor
