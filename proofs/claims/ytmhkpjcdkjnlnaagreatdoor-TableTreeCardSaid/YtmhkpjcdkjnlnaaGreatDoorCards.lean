/-
  DERIVED. GIVEN WITH THE SEED: THE CARDS: each row of YtmhkpjcdkjnlnaaGreatDoorRows.lean that lists a variable, with what it lists TIED to the program's text (the seventh form; the later family's looks); each row that meets fmt, with fmt's text TOLD by the authors' own Lean function (tested against real Go, not proved from fmt's source: count such statements apart). THE CARD IS WHAT COUNTS. Prove the row's statement (the work); the ties are given (YtmhkpjcdkjnlnaaGreatDoorTie.lean); close each card by the builder's one call (the guide's Derived/Test/ToyasCard.lean, 'card_holds'). Laid BY PROGRAM, IN A SANDBOX (cutbox-door.mjs). By AI agents, Wed Nov 11 2026. No macro, syntax, notation, axiom, sorry.
-/
import Derived.Test.YtmhkpjcdkjnlnaaGreatDoorRows
import GoSem.ClaimSeven
namespace Go.Proofs.YtmhkpjcdkjnlnaaGreatDoor
namespace Rows

/-- THE TIED CARD OF 'spinetlaw13.MacroStarts'. -/
def macroStartsCard : Claim7 := { stood := { row := macroStartsRow, standIns := [], harness := (true, "cc29b3e3249a7cb15d7997eaf88cbd383e2792689fce5b98e4dfb0b0127a3a3f"), looks := true }, kinds := [], alts := [], laidByText := true, laidKinds := [.data, .data, .data, .sentinel, .sentinel, .data], laidTests := true, laidLooks := .later }
def MacroStartsCardSaid : Prop := Claim7.holds Tryz.pinned (.plain (OpenSpec.ofChange macroStartsSpec)) macroStartsCard

/-- THE TIED CARD OF 'spinetlaw13.MacroPlays'. -/
def macroPlaysCard : Claim7 := { stood := { row := macroPlaysRow, standIns := [], harness := (true, "cc29b3e3249a7cb15d7997eaf88cbd383e2792689fce5b98e4dfb0b0127a3a3f"), looks := true }, kinds := [], alts := [], laidByText := true, laidKinds := [.data, .data, .data, .sentinel, .sentinel, .data], laidTests := true, laidLooks := .later }
def MacroPlaysCardSaid : Prop := Claim7.holds Tryz.pinned (.plain (OpenSpec.ofChange macroPlaysSpec)) macroPlaysCard

/-- THE TIED CARD OF 'spinetlaw14.TableTree'. -/
def tableTreeCard : Claim7 := { stood := { row := tableTreeRow, standIns := [], harness := (true, "cc29b3e3249a7cb15d7997eaf88cbd383e2792689fce5b98e4dfb0b0127a3a3f"), looks := true }, kinds := [], alts := [], laidByText := true, laidKinds := [.data, .data, .data, .sentinel, .sentinel, .data], laidTests := true, laidLooks := .later }
def TableTreeCardSaid : Prop := Claim7.holds Tryz.pinned (.plain (OpenSpec.ofChange tableTreeSpec)) tableTreeCard

/-- THE SECOND FORM's CARD OF 'spinetlaw13.MacroStarts'. -/
def macroStartsUptoCard : Claim7 := { stood := { row := macroStartsUptoRow, standIns := [], harness := (true, "cc29b3e3249a7cb15d7997eaf88cbd383e2792689fce5b98e4dfb0b0127a3a3f"), looks := true }, kinds := [], alts := [], laidByText := true, laidKinds := [.data, .data, .data, .sentinel, .sentinel, .data], laidTests := true, laidLooks := .later }
def MacroStartsUptoCardSaid : Prop := Claim7.holds Tryz.pinned (.plain (OpenSpec.upto macroStartsSpec)) macroStartsUptoCard

/-- THE SECOND FORM's CARD OF 'spinetlaw13.MacroPlays'. -/
def macroPlaysUptoCard : Claim7 := { stood := { row := macroPlaysUptoRow, standIns := [], harness := (true, "cc29b3e3249a7cb15d7997eaf88cbd383e2792689fce5b98e4dfb0b0127a3a3f"), looks := true }, kinds := [], alts := [], laidByText := true, laidKinds := [.data, .data, .data, .sentinel, .sentinel, .data], laidTests := true, laidLooks := .later }
def MacroPlaysUptoCardSaid : Prop := Claim7.holds Tryz.pinned (.plain (OpenSpec.upto macroPlaysSpec)) macroPlaysUptoCard

/-- THE SECOND FORM's CARD OF 'spinetlaw14.TableTree'. -/
def tableTreeUptoCard : Claim7 := { stood := { row := tableTreeUptoRow, standIns := [], harness := (true, "cc29b3e3249a7cb15d7997eaf88cbd383e2792689fce5b98e4dfb0b0127a3a3f"), looks := true }, kinds := [], alts := [], laidByText := true, laidKinds := [.data, .data, .data, .sentinel, .sentinel, .data], laidTests := true, laidLooks := .later }
def TableTreeUptoCardSaid : Prop := Claim7.holds Tryz.pinned (.plain (OpenSpec.upto tableTreeSpec)) tableTreeUptoCard
end Rows
end Go.Proofs.YtmhkpjcdkjnlnaaGreatDoor
