/-
  DERIVED. GIVEN WITH THE SEED: THE CARDS: each row of YtgofpbdbeegoeaaGreatDoorRows.lean that lists a variable, with what it lists TIED to the program's text (the seventh form; the later family's looks); each row that meets fmt, with fmt's text TOLD by the authors' own Lean function (tested against real Go, not proved from fmt's source: count such statements apart). THE CARD IS WHAT COUNTS. Prove the row's statement (the work); the ties are given (YtgofpbdbeegoeaaGreatDoorTie.lean); close each card by the builder's one call (the guide's Derived/Test/ToyasCard.lean, 'card_holds'). Laid BY PROGRAM, IN A SANDBOX (cutbox-door.mjs). By AI agents, Wed Nov 11 2026. No macro, syntax, notation, axiom, sorry.
-/
import Derived.Test.YtgofpbdbeegoeaaGreatDoorRows
import GoSem.ClaimSeven
namespace Go.Proofs.YtgofpbdbeegoeaaGreatDoor
namespace Rows

/-- THE TIED CARD OF 'spinetlaw12.MicroWhole'. -/
def microWholeCard : Claim7 := { stood := { row := microWholeRow, standIns := [], harness := (true, "bef690a948a19cd11a07a0a8083693a4b78754645dfb6f7339aac58da2f7d4a8"), looks := true }, kinds := [], alts := [], laidByText := true, laidKinds := [.data, .data, .data, .sentinel, .sentinel, .data], laidTests := true, laidLooks := .later }
def MicroWholeCardSaid : Prop := Claim7.holds Tryz.pinned (.plain (OpenSpec.ofChange microWholeSpec)) microWholeCard

/-- THE TIED CARD OF 'spinetlaw13.MacroStarts'. -/
def macroStartsCard : Claim7 := { stood := { row := macroStartsRow, standIns := [], harness := (true, "bef690a948a19cd11a07a0a8083693a4b78754645dfb6f7339aac58da2f7d4a8"), looks := true }, kinds := [], alts := [], laidByText := true, laidKinds := [.data, .data, .data, .sentinel, .sentinel, .data], laidTests := true, laidLooks := .later }
def MacroStartsCardSaid : Prop := Claim7.holds Tryz.pinned (.plain (OpenSpec.ofChange macroStartsSpec)) macroStartsCard

/-- THE TIED CARD OF 'spinetlaw13.MacroPlays'. -/
def macroPlaysCard : Claim7 := { stood := { row := macroPlaysRow, standIns := [], harness := (true, "bef690a948a19cd11a07a0a8083693a4b78754645dfb6f7339aac58da2f7d4a8"), looks := true }, kinds := [], alts := [], laidByText := true, laidKinds := [.data, .data, .data, .sentinel, .sentinel, .data], laidTests := true, laidLooks := .later }
def MacroPlaysCardSaid : Prop := Claim7.holds Tryz.pinned (.plain (OpenSpec.ofChange macroPlaysSpec)) macroPlaysCard

/-- THE TIED CARD OF 'spinetlaw13.MacroIdle'. -/
def macroIdleCard : Claim7 := { stood := { row := macroIdleRow, standIns := [], harness := (true, "bef690a948a19cd11a07a0a8083693a4b78754645dfb6f7339aac58da2f7d4a8"), looks := true }, kinds := [], alts := [], laidByText := true, laidKinds := [.data, .data, .data, .sentinel, .sentinel, .data], laidTests := true, laidLooks := .later }
def MacroIdleCardSaid : Prop := Claim7.holds Tryz.pinned (.plain (OpenSpec.ofChange macroIdleSpec)) macroIdleCard

/-- THE SECOND FORM's CARD OF 'spinetlaw12.MicroWhole'. -/
def microWholeUptoCard : Claim7 := { stood := { row := microWholeUptoRow, standIns := [], harness := (true, "bef690a948a19cd11a07a0a8083693a4b78754645dfb6f7339aac58da2f7d4a8"), looks := true }, kinds := [], alts := [], laidByText := true, laidKinds := [.data, .data, .data, .sentinel, .sentinel, .data], laidTests := true, laidLooks := .later }
def MicroWholeUptoCardSaid : Prop := Claim7.holds Tryz.pinned (.plain (OpenSpec.upto microWholeSpec)) microWholeUptoCard

/-- THE SECOND FORM's CARD OF 'spinetlaw13.MacroStarts'. -/
def macroStartsUptoCard : Claim7 := { stood := { row := macroStartsUptoRow, standIns := [], harness := (true, "bef690a948a19cd11a07a0a8083693a4b78754645dfb6f7339aac58da2f7d4a8"), looks := true }, kinds := [], alts := [], laidByText := true, laidKinds := [.data, .data, .data, .sentinel, .sentinel, .data], laidTests := true, laidLooks := .later }
def MacroStartsUptoCardSaid : Prop := Claim7.holds Tryz.pinned (.plain (OpenSpec.upto macroStartsSpec)) macroStartsUptoCard

/-- THE SECOND FORM's CARD OF 'spinetlaw13.MacroPlays'. -/
def macroPlaysUptoCard : Claim7 := { stood := { row := macroPlaysUptoRow, standIns := [], harness := (true, "bef690a948a19cd11a07a0a8083693a4b78754645dfb6f7339aac58da2f7d4a8"), looks := true }, kinds := [], alts := [], laidByText := true, laidKinds := [.data, .data, .data, .sentinel, .sentinel, .data], laidTests := true, laidLooks := .later }
def MacroPlaysUptoCardSaid : Prop := Claim7.holds Tryz.pinned (.plain (OpenSpec.upto macroPlaysSpec)) macroPlaysUptoCard

/-- THE SECOND FORM's CARD OF 'spinetlaw13.MacroIdle'. -/
def macroIdleUptoCard : Claim7 := { stood := { row := macroIdleUptoRow, standIns := [], harness := (true, "bef690a948a19cd11a07a0a8083693a4b78754645dfb6f7339aac58da2f7d4a8"), looks := true }, kinds := [], alts := [], laidByText := true, laidKinds := [.data, .data, .data, .sentinel, .sentinel, .data], laidTests := true, laidLooks := .later }
def MacroIdleUptoCardSaid : Prop := Claim7.holds Tryz.pinned (.plain (OpenSpec.upto macroIdleSpec)) macroIdleUptoCard
end Rows
end Go.Proofs.YtgofpbdbeegoeaaGreatDoor
