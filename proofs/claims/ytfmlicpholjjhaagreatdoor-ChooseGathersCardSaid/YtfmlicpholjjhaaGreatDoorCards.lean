/-
  DERIVED. GIVEN WITH THE SEED: THE CARDS: each row of YtfmlicpholjjhaaGreatDoorRows.lean that lists a variable, with what it lists TIED to the program's text (the seventh form; the later family's looks); each row that meets fmt, with fmt's text TOLD by the authors' own Lean function (tested against real Go, not proved from fmt's source: count such statements apart). THE CARD IS WHAT COUNTS. Prove the row's statement (the work); the ties are given (YtfmlicpholjjhaaGreatDoorTie.lean); close each card by the builder's one call (the guide's Derived/Test/ToyasCard.lean, 'card_holds'). Laid BY PROGRAM, IN A SANDBOX (cutbox-door.mjs). By AI agents, Wed Nov 11 2026. No macro, syntax, notation, axiom, sorry.
-/
import Derived.Test.YtfmlicpholjjhaaGreatDoorRows
import GoSem.ClaimSeven
namespace Go.Proofs.YtfmlicpholjjhaaGreatDoor
namespace Rows

/-- THE TIED CARD OF 'spinetlaw10.ChooseReady'. -/
def chooseReadyCard : Claim7 := { stood := { row := chooseReadyRow, standIns := [], harness := (true, "5d9c993d1a18eadecf2e2d04f48fbadb5c4ddee182edb98cf0b76c2b4222baad"), looks := true }, kinds := [], alts := [], laidByText := true, laidKinds := [.data, .data, .data, .sentinel, .sentinel, .data], laidTests := true, laidLooks := .later }
def ChooseReadyCardSaid : Prop := Claim7.holds Tryz.pinned (.plain (OpenSpec.ofChange chooseReadySpec)) chooseReadyCard

/-- THE TIED CARD OF 'spinetlaw10.ChooseGathers'. -/
def chooseGathersCard : Claim7 := { stood := { row := chooseGathersRow, standIns := [], harness := (true, "5d9c993d1a18eadecf2e2d04f48fbadb5c4ddee182edb98cf0b76c2b4222baad"), looks := true }, kinds := [], alts := [], laidByText := true, laidKinds := [.data, .data, .data, .sentinel, .sentinel, .data], laidTests := true, laidLooks := .later }
def ChooseGathersCardSaid : Prop := Claim7.holds Tryz.pinned (.plain (OpenSpec.ofChange chooseGathersSpec)) chooseGathersCard

/-- THE TIED CARD OF 'spinetlaw10.ChooseKept'. -/
def chooseKeptCard : Claim7 := { stood := { row := chooseKeptRow, standIns := [], harness := (true, "5d9c993d1a18eadecf2e2d04f48fbadb5c4ddee182edb98cf0b76c2b4222baad"), looks := true }, kinds := [], alts := [], laidByText := true, laidKinds := [.data, .data, .data, .sentinel, .sentinel, .data], laidTests := true, laidLooks := .later }
def ChooseKeptCardSaid : Prop := Claim7.holds Tryz.pinned (.plain (OpenSpec.ofChange chooseKeptSpec)) chooseKeptCard

/-- THE SECOND FORM's CARD OF 'spinetlaw10.ChooseReady'. -/
def chooseReadyUptoCard : Claim7 := { stood := { row := chooseReadyUptoRow, standIns := [], harness := (true, "5d9c993d1a18eadecf2e2d04f48fbadb5c4ddee182edb98cf0b76c2b4222baad"), looks := true }, kinds := [], alts := [], laidByText := true, laidKinds := [.data, .data, .data, .sentinel, .sentinel, .data], laidTests := true, laidLooks := .later }
def ChooseReadyUptoCardSaid : Prop := Claim7.holds Tryz.pinned (.plain (OpenSpec.upto chooseReadySpec)) chooseReadyUptoCard

/-- THE SECOND FORM's CARD OF 'spinetlaw10.ChooseGathers'. -/
def chooseGathersUptoCard : Claim7 := { stood := { row := chooseGathersUptoRow, standIns := [], harness := (true, "5d9c993d1a18eadecf2e2d04f48fbadb5c4ddee182edb98cf0b76c2b4222baad"), looks := true }, kinds := [], alts := [], laidByText := true, laidKinds := [.data, .data, .data, .sentinel, .sentinel, .data], laidTests := true, laidLooks := .later }
def ChooseGathersUptoCardSaid : Prop := Claim7.holds Tryz.pinned (.plain (OpenSpec.upto chooseGathersSpec)) chooseGathersUptoCard

/-- THE SECOND FORM's CARD OF 'spinetlaw10.ChooseKept'. -/
def chooseKeptUptoCard : Claim7 := { stood := { row := chooseKeptUptoRow, standIns := [], harness := (true, "5d9c993d1a18eadecf2e2d04f48fbadb5c4ddee182edb98cf0b76c2b4222baad"), looks := true }, kinds := [], alts := [], laidByText := true, laidKinds := [.data, .data, .data, .sentinel, .sentinel, .data], laidTests := true, laidLooks := .later }
def ChooseKeptUptoCardSaid : Prop := Claim7.holds Tryz.pinned (.plain (OpenSpec.upto chooseKeptSpec)) chooseKeptUptoCard
end Rows
end Go.Proofs.YtfmlicpholjjhaaGreatDoor
