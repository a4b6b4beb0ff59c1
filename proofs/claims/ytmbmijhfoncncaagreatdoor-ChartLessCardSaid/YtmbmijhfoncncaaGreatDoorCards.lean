/-
  DERIVED. GIVEN WITH THE SEED: THE CARDS: each row of YtmbmijhfoncncaaGreatDoorRows.lean that lists a variable, with what it lists TIED to the program's text (the seventh form; the later family's looks); each row that meets fmt, with fmt's text TOLD by the authors' own Lean function (tested against real Go, not proved from fmt's source: count such statements apart). THE CARD IS WHAT COUNTS. Prove the row's statement (the work); the ties are given (YtmbmijhfoncncaaGreatDoorTie.lean); close each card by the builder's one call (the guide's Derived/Test/ToyasCard.lean, 'card_holds'). Laid BY PROGRAM, IN A SANDBOX (cutbox-door.mjs). By AI agents, Wed Nov 11 2026. No macro, syntax, notation, axiom, sorry.
-/
import Derived.Test.YtmbmijhfoncncaaGreatDoorRows
import GoSem.ClaimSeven
namespace Go.Proofs.YtmbmijhfoncncaaGreatDoor
namespace Rows

/-- THE TIED CARD OF 'spinetlaw05.ChartKids'. -/
def chartKidsCard : Claim7 := { stood := { row := chartKidsRow, standIns := [], harness := (true, "cd9f61428752a7758e274886711d6904db63ce8bc5fb11397bfd49aeb121c25b"), looks := true }, kinds := [], alts := [], laidByText := true, laidKinds := [.data, .data, .data, .handle, .sentinel, .sentinel, .data], laidTests := true, laidLooks := .later }
def ChartKidsCardSaid : Prop := Claim7.holds Tryz.pinned (.plain (OpenSpec.ofChange chartKidsSpec)) chartKidsCard

/-- THE TIED CARD OF 'spinetlaw05.ChartOrder'. -/
def chartOrderCard : Claim7 := { stood := { row := chartOrderRow, standIns := [], harness := (true, "cd9f61428752a7758e274886711d6904db63ce8bc5fb11397bfd49aeb121c25b"), looks := true }, kinds := [], alts := [], laidByText := true, laidKinds := [.data, .data, .data, .handle, .sentinel, .sentinel, .data], laidTests := true, laidLooks := .later }
def ChartOrderCardSaid : Prop := Claim7.holds Tryz.pinned (.plain (OpenSpec.ofChange chartOrderSpec)) chartOrderCard

/-- THE TIED CARD OF 'spinetlaw05.ChartLess'. -/
def chartLessCard : Claim7 := { stood := { row := chartLessRow, standIns := [], harness := (true, "cd9f61428752a7758e274886711d6904db63ce8bc5fb11397bfd49aeb121c25b"), looks := true }, kinds := [], alts := [], laidByText := true, laidKinds := [.data, .data, .data, .handle, .sentinel, .sentinel, .data], laidTests := true, laidLooks := .later }
def ChartLessCardSaid : Prop := Claim7.holds Tryz.pinned (.plain (OpenSpec.ofChange chartLessSpec)) chartLessCard

/-- THE SECOND FORM's CARD OF 'spinetlaw05.ChartKids'. -/
def chartKidsUptoCard : Claim7 := { stood := { row := chartKidsUptoRow, standIns := [], harness := (true, "cd9f61428752a7758e274886711d6904db63ce8bc5fb11397bfd49aeb121c25b"), looks := true }, kinds := [], alts := [], laidByText := true, laidKinds := [.data, .data, .data, .handle, .sentinel, .sentinel, .data], laidTests := true, laidLooks := .later }
def ChartKidsUptoCardSaid : Prop := Claim7.holds Tryz.pinned (.plain (OpenSpec.upto chartKidsSpec)) chartKidsUptoCard

/-- THE SECOND FORM's CARD OF 'spinetlaw05.ChartOrder'. -/
def chartOrderUptoCard : Claim7 := { stood := { row := chartOrderUptoRow, standIns := [], harness := (true, "cd9f61428752a7758e274886711d6904db63ce8bc5fb11397bfd49aeb121c25b"), looks := true }, kinds := [], alts := [], laidByText := true, laidKinds := [.data, .data, .data, .handle, .sentinel, .sentinel, .data], laidTests := true, laidLooks := .later }
def ChartOrderUptoCardSaid : Prop := Claim7.holds Tryz.pinned (.plain (OpenSpec.upto chartOrderSpec)) chartOrderUptoCard

/-- THE SECOND FORM's CARD OF 'spinetlaw05.ChartLess'. -/
def chartLessUptoCard : Claim7 := { stood := { row := chartLessUptoRow, standIns := [], harness := (true, "cd9f61428752a7758e274886711d6904db63ce8bc5fb11397bfd49aeb121c25b"), looks := true }, kinds := [], alts := [], laidByText := true, laidKinds := [.data, .data, .data, .handle, .sentinel, .sentinel, .data], laidTests := true, laidLooks := .later }
def ChartLessUptoCardSaid : Prop := Claim7.holds Tryz.pinned (.plain (OpenSpec.upto chartLessSpec)) chartLessUptoCard
end Rows
end Go.Proofs.YtmbmijhfoncncaaGreatDoor
