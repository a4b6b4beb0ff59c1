/-
  DERIVED. GIVEN WITH THE SEED: THE CARDS: each row of YtpekhdfmmkmjaaaGreatDoorRows.lean that lists a variable, with what it lists TIED to the program's text (the seventh form; the later family's looks); each row that meets fmt, with fmt's text TOLD by the authors' own Lean function (tested against real Go, not proved from fmt's source: count such statements apart). THE CARD IS WHAT COUNTS. Prove the row's statement (the work); the ties are given (YtpekhdfmmkmjaaaGreatDoorTie.lean); close each card by the builder's one call (the guide's Derived/Test/ToyasCard.lean, 'card_holds'). Laid BY PROGRAM, IN A SANDBOX (cutbox-door.mjs). By AI agents, Wed Nov 11 2026. No macro, syntax, notation, axiom, sorry.
-/
import Derived.Test.YtpekhdfmmkmjaaaGreatDoorRows
import GoSem.ClaimSeven
namespace Go.Proofs.YtpekhdfmmkmjaaaGreatDoor
namespace Rows

/-- THE TIED CARD OF 'spinetlaw13.MacroStarts'. -/
def macroStartsCard : Claim7 := { stood := { row := macroStartsRow, standIns := [], harness := (true, "ab9304f88bf964dd12cb29d81fd3c6db8f32420682d8b3405e166caf0fb358f9"), looks := true }, kinds := [], alts := [], laidByText := true, laidKinds := [.data, .data, .data, .sentinel, .sentinel, .data], laidTests := true, laidLooks := .later }
def MacroStartsCardSaid : Prop := Claim7.holds Tryz.pinned (.plain (OpenSpec.ofChange macroStartsSpec)) macroStartsCard

/-- THE TIED CARD OF 'spinetlaw15.EngineStarts'. -/
def engineStartsCard : Claim7 := { stood := { row := engineStartsRow, standIns := [], harness := (true, "ab9304f88bf964dd12cb29d81fd3c6db8f32420682d8b3405e166caf0fb358f9"), looks := true }, kinds := [], alts := [], laidByText := true, laidKinds := [.data, .data, .data, .sentinel, .sentinel, .data], laidTests := true, laidLooks := .later }
def EngineStartsCardSaid : Prop := Claim7.holds Tryz.pinned (.plain (OpenSpec.ofChange engineStartsSpec)) engineStartsCard

/-- THE TIED CARD OF 'spinetlaw15.EngineMacro'. -/
def engineMacroCard : Claim7 := { stood := { row := engineMacroRow, standIns := [], harness := (true, "ab9304f88bf964dd12cb29d81fd3c6db8f32420682d8b3405e166caf0fb358f9"), looks := true }, kinds := [], alts := [], laidByText := true, laidKinds := [.data, .data, .data, .sentinel, .sentinel, .data], laidTests := true, laidLooks := .later }
def EngineMacroCardSaid : Prop := Claim7.holds Tryz.pinned (.plain (OpenSpec.ofChange engineMacroSpec)) engineMacroCard

/-- THE SECOND FORM's CARD OF 'spinetlaw13.MacroStarts'. -/
def macroStartsUptoCard : Claim7 := { stood := { row := macroStartsUptoRow, standIns := [], harness := (true, "ab9304f88bf964dd12cb29d81fd3c6db8f32420682d8b3405e166caf0fb358f9"), looks := true }, kinds := [], alts := [], laidByText := true, laidKinds := [.data, .data, .data, .sentinel, .sentinel, .data], laidTests := true, laidLooks := .later }
def MacroStartsUptoCardSaid : Prop := Claim7.holds Tryz.pinned (.plain (OpenSpec.upto macroStartsSpec)) macroStartsUptoCard

/-- THE SECOND FORM's CARD OF 'spinetlaw15.EngineStarts'. -/
def engineStartsUptoCard : Claim7 := { stood := { row := engineStartsUptoRow, standIns := [], harness := (true, "ab9304f88bf964dd12cb29d81fd3c6db8f32420682d8b3405e166caf0fb358f9"), looks := true }, kinds := [], alts := [], laidByText := true, laidKinds := [.data, .data, .data, .sentinel, .sentinel, .data], laidTests := true, laidLooks := .later }
def EngineStartsUptoCardSaid : Prop := Claim7.holds Tryz.pinned (.plain (OpenSpec.upto engineStartsSpec)) engineStartsUptoCard

/-- THE SECOND FORM's CARD OF 'spinetlaw15.EngineMacro'. -/
def engineMacroUptoCard : Claim7 := { stood := { row := engineMacroUptoRow, standIns := [], harness := (true, "ab9304f88bf964dd12cb29d81fd3c6db8f32420682d8b3405e166caf0fb358f9"), looks := true }, kinds := [], alts := [], laidByText := true, laidKinds := [.data, .data, .data, .sentinel, .sentinel, .data], laidTests := true, laidLooks := .later }
def EngineMacroUptoCardSaid : Prop := Claim7.holds Tryz.pinned (.plain (OpenSpec.upto engineMacroSpec)) engineMacroUptoCard
end Rows
end Go.Proofs.YtpekhdfmmkmjaaaGreatDoor
