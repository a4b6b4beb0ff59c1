/-
  DERIVED. GIVEN WITH THE SEED: THE CARDS: each row of YtafcbgapllkghaaDoorRows.lean that lists a variable, with what it lists TIED to the program's text (the seventh form; the later family's looks); each row that meets fmt, with fmt's text TOLD by the authors' own Lean function (tested against real Go, not proved from fmt's source: count such statements apart). THE CARD IS WHAT COUNTS. Prove the row's statement (the work); the ties are given (YtafcbgapllkghaaDoorTie.lean); close each card by the builder's one call (the guide's Derived/Test/ToyasCard.lean, 'card_holds'). Laid BY PROGRAM, IN A SANDBOX (cutbox-door.mjs). By AI agents, Wed Nov 11 2026. No macro, syntax, notation, axiom, sorry.
-/
import Derived.Test.YtafcbgapllkghaaDoorRows
import GoSem.ClaimSeven
namespace Go.Proofs.YtafcbgapllkghaaDoor
namespace Rows

/-- THE TIED CARD OF 'spinetlaw11.ActParts'. -/
def actPartsCard : Claim7 := { stood := { row := actPartsRow, standIns := [], harness := (true, "9fbec2c4701cc8e4441d91ddf7dca82db633c83dc446dfd3a155df4f35bc763c"), looks := true }, kinds := [], alts := [], laidByText := true, laidKinds := [.data, .data, .data, .sentinel, .sentinel, .data], laidTests := true, laidLooks := .later }
def ActPartsCardSaid : Prop := Claim7.holds Tryd.pinned (.plain (OpenSpec.ofChange actPartsSpec)) actPartsCard

/-- THE SECOND FORM's CARD OF 'spinetlaw11.ActParts'. -/
def actPartsUptoCard : Claim7 := { stood := { row := actPartsUptoRow, standIns := [], harness := (true, "9fbec2c4701cc8e4441d91ddf7dca82db633c83dc446dfd3a155df4f35bc763c"), looks := true }, kinds := [], alts := [], laidByText := true, laidKinds := [.data, .data, .data, .sentinel, .sentinel, .data], laidTests := true, laidLooks := .later }
def ActPartsUptoCardSaid : Prop := Claim7.holds Tryd.pinned (.plain (OpenSpec.upto actPartsSpec)) actPartsUptoCard
end Rows
end Go.Proofs.YtafcbgapllkghaaDoor
