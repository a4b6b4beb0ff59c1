/-
  DERIVED. GIVEN WITH THE SEED: THE CARDS: each row of YtfgkcjmeiabdjaaGreatDoorRows.lean that lists a variable, with what it lists TIED to the program's text (the seventh form; the later family's looks); each row that meets fmt, with fmt's text TOLD by the authors' own Lean function (tested against real Go, not proved from fmt's source: count such statements apart). THE CARD IS WHAT COUNTS. Prove the row's statement (the work); the ties are given (YtfgkcjmeiabdjaaGreatDoorTie.lean); close each card by the builder's one call (the guide's Derived/Test/ToyasCard.lean, 'card_holds'). Laid BY PROGRAM, IN A SANDBOX (cutbox-door.mjs). By AI agents, Wed Nov 11 2026. No macro, syntax, notation, axiom, sorry.
-/
import Derived.Test.YtfgkcjmeiabdjaaGreatDoorRows
import GoSem.ClaimSeven
namespace Go.Proofs.YtfgkcjmeiabdjaaGreatDoor
namespace Rows

/-- THE TIED CARD OF 'spinetlaw12.MicroFirst'. -/
def microFirstCard : Claim7 := { stood := { row := microFirstRow, standIns := [], harness := (true, "289ffc3904c5b87613361c07619a5f1897bf1a7a5f613e689ecadd5f0733f8bb"), looks := true }, kinds := [], alts := [], laidByText := true, laidKinds := [.data, .data, .data, .sentinel, .sentinel, .data], laidTests := true, laidLooks := .later }
def MicroFirstCardSaid : Prop := Claim7.holds Tryz.pinned (.plain (OpenSpec.ofChange microFirstSpec)) microFirstCard

/-- THE TIED CARD OF 'spinetlaw12.MicroWhole'. -/
def microWholeCard : Claim7 := { stood := { row := microWholeRow, standIns := [], harness := (true, "289ffc3904c5b87613361c07619a5f1897bf1a7a5f613e689ecadd5f0733f8bb"), looks := true }, kinds := [], alts := [], laidByText := true, laidKinds := [.data, .data, .data, .sentinel, .sentinel, .data], laidTests := true, laidLooks := .later }
def MicroWholeCardSaid : Prop := Claim7.holds Tryz.pinned (.plain (OpenSpec.ofChange microWholeSpec)) microWholeCard

/-- THE SECOND FORM's CARD OF 'spinetlaw12.MicroFirst'. -/
def microFirstUptoCard : Claim7 := { stood := { row := microFirstUptoRow, standIns := [], harness := (true, "289ffc3904c5b87613361c07619a5f1897bf1a7a5f613e689ecadd5f0733f8bb"), looks := true }, kinds := [], alts := [], laidByText := true, laidKinds := [.data, .data, .data, .sentinel, .sentinel, .data], laidTests := true, laidLooks := .later }
def MicroFirstUptoCardSaid : Prop := Claim7.holds Tryz.pinned (.plain (OpenSpec.upto microFirstSpec)) microFirstUptoCard

/-- THE SECOND FORM's CARD OF 'spinetlaw12.MicroWhole'. -/
def microWholeUptoCard : Claim7 := { stood := { row := microWholeUptoRow, standIns := [], harness := (true, "289ffc3904c5b87613361c07619a5f1897bf1a7a5f613e689ecadd5f0733f8bb"), looks := true }, kinds := [], alts := [], laidByText := true, laidKinds := [.data, .data, .data, .sentinel, .sentinel, .data], laidTests := true, laidLooks := .later }
def MicroWholeUptoCardSaid : Prop := Claim7.holds Tryz.pinned (.plain (OpenSpec.upto microWholeSpec)) microWholeUptoCard
end Rows
end Go.Proofs.YtfgkcjmeiabdjaaGreatDoor
