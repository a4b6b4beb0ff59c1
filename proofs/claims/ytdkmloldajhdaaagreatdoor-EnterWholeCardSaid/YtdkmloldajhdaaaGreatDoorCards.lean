/-
  DERIVED. GIVEN WITH THE SEED: THE CARDS: each row of YtdkmloldajhdaaaGreatDoorRows.lean that lists a variable, with what it lists TIED to the program's text (the seventh form; the later family's looks); each row that meets fmt, with fmt's text TOLD by the authors' own Lean function (tested against real Go, not proved from fmt's source: count such statements apart). THE CARD IS WHAT COUNTS. Prove the row's statement (the work); the ties are given (YtdkmloldajhdaaaGreatDoorTie.lean); close each card by the builder's one call (the guide's Derived/Test/ToyasCard.lean, 'card_holds'). Laid BY PROGRAM, IN A SANDBOX (cutbox-door.mjs). By AI agents, Wed Nov 11 2026. No macro, syntax, notation, axiom, sorry.
-/
import Derived.Test.YtdkmloldajhdaaaGreatDoorRows
import GoSem.ClaimSeven
namespace Go.Proofs.YtdkmloldajhdaaaGreatDoor
namespace Rows

/-- THE TIED CARD OF 'spinetlaw08.EnterReal'. -/
def enterRealCard : Claim7 := { stood := { row := enterRealRow, standIns := [], harness := (true, "73021bb2a7882aea8abf3f3a1946d41cbd154e4ff8e23a2fafcff4a743981cf5"), looks := true }, kinds := [], alts := [], laidByText := true, laidKinds := [.data, .data, .data, .sentinel, .sentinel, .data], laidTests := true, laidLooks := .later }
def EnterRealCardSaid : Prop := Claim7.holds Tryz.pinned (.plain (OpenSpec.ofChange enterRealSpec)) enterRealCard

/-- THE TIED CARD OF 'spinetlaw08.EnterSets'. -/
def enterSetsCard : Claim7 := { stood := { row := enterSetsRow, standIns := [], harness := (true, "73021bb2a7882aea8abf3f3a1946d41cbd154e4ff8e23a2fafcff4a743981cf5"), looks := true }, kinds := [], alts := [], laidByText := true, laidKinds := [.data, .data, .data, .sentinel, .sentinel, .data], laidTests := true, laidLooks := .later }
def EnterSetsCardSaid : Prop := Claim7.holds Tryz.pinned (.plain (OpenSpec.ofChange enterSetsSpec)) enterSetsCard

/-- THE TIED CARD OF 'spinetlaw08.EnterWhole'. -/
def enterWholeCard : Claim7 := { stood := { row := enterWholeRow, standIns := [], harness := (true, "73021bb2a7882aea8abf3f3a1946d41cbd154e4ff8e23a2fafcff4a743981cf5"), looks := true }, kinds := [], alts := [], laidByText := true, laidKinds := [.data, .data, .data, .sentinel, .sentinel, .data], laidTests := true, laidLooks := .later }
def EnterWholeCardSaid : Prop := Claim7.holds Tryz.pinned (.plain (OpenSpec.ofChange enterWholeSpec)) enterWholeCard

/-- THE SECOND FORM's CARD OF 'spinetlaw08.EnterReal'. -/
def enterRealUptoCard : Claim7 := { stood := { row := enterRealUptoRow, standIns := [], harness := (true, "73021bb2a7882aea8abf3f3a1946d41cbd154e4ff8e23a2fafcff4a743981cf5"), looks := true }, kinds := [], alts := [], laidByText := true, laidKinds := [.data, .data, .data, .sentinel, .sentinel, .data], laidTests := true, laidLooks := .later }
def EnterRealUptoCardSaid : Prop := Claim7.holds Tryz.pinned (.plain (OpenSpec.upto enterRealSpec)) enterRealUptoCard

/-- THE SECOND FORM's CARD OF 'spinetlaw08.EnterSets'. -/
def enterSetsUptoCard : Claim7 := { stood := { row := enterSetsUptoRow, standIns := [], harness := (true, "73021bb2a7882aea8abf3f3a1946d41cbd154e4ff8e23a2fafcff4a743981cf5"), looks := true }, kinds := [], alts := [], laidByText := true, laidKinds := [.data, .data, .data, .sentinel, .sentinel, .data], laidTests := true, laidLooks := .later }
def EnterSetsUptoCardSaid : Prop := Claim7.holds Tryz.pinned (.plain (OpenSpec.upto enterSetsSpec)) enterSetsUptoCard

/-- THE SECOND FORM's CARD OF 'spinetlaw08.EnterWhole'. -/
def enterWholeUptoCard : Claim7 := { stood := { row := enterWholeUptoRow, standIns := [], harness := (true, "73021bb2a7882aea8abf3f3a1946d41cbd154e4ff8e23a2fafcff4a743981cf5"), looks := true }, kinds := [], alts := [], laidByText := true, laidKinds := [.data, .data, .data, .sentinel, .sentinel, .data], laidTests := true, laidLooks := .later }
def EnterWholeUptoCardSaid : Prop := Claim7.holds Tryz.pinned (.plain (OpenSpec.upto enterWholeSpec)) enterWholeUptoCard
end Rows
end Go.Proofs.YtdkmloldajhdaaaGreatDoor
