/- A []api.Act argument opened. -/
import Derived.Test.YtafcbgapllkghaaGreatDoorHarg
namespace Go.Proofs.YtafcbgapllkghaaGreatDoor
open Go.ChangeShapes Go.WideShapes Go.ChangeAt Go.RowKit
set_option linter.unusedVariables false

section
variable {H : Type} {enc : TypeId × Value → H} {W : World} {base : Nat}
set_option maxRecDepth 100000 in
/-- the actions that an argument holds -/
theorem acts_of_arg {v : Value} {d : DataW H} {ps : List MemPlace} (hv : Value.okWide Tryz.prog W .any base 22 v) (h : DataW.Trod enc Tryz.prog W 0 (fun _ => true) true 22 v d ps) :
    ∃ l : List Ac, ActsAt W v l ∧ Short l.length := by
  obtain ⟨fuel, hf⟩ := h
  obtain ⟨A, len, cap, rfl⟩ := okWide_slice Tryz.underlying22 hv
  have hf' : DataW.trod enc Tryz.prog W 0 (fun _ => true) true fuel 22 [.slice A len cap] = some (d, ps) := by simpa [Value.cells] using hf
  exact acts_of hf'
end
end Go.Proofs.YtafcbgapllkghaaGreatDoor
