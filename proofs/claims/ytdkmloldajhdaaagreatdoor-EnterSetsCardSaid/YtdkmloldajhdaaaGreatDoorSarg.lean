/- A []int and a []uint32 argument opened. -/
import Derived.Test.YtdkmloldajhdaaaGreatDoorSof
import Derived.Test.YtdkmloldajhdaaaGreatDoorCarg
namespace Go.Proofs.YtdkmloldajhdaaaGreatDoor
open Go.ChangeShapes Go.WideShapes Go.ChangeAt Go.RowKit
set_option linter.unusedVariables false

section
variable {H : Type} {enc : TypeId × Value → H} {W : World} {base : Nat}
theorem k40 : Tryz.prog.cellsOf 40 = 1 := by kernel_rfl
set_option maxRecDepth 100000 in
/-- the sets that an argument holds -/
theorem hist_of_arg {v : Value} {d : DataW H} {ps : List MemPlace} (hv : Value.okWide Tryz.prog W .any base 26 v) (h : DataW.Trod enc Tryz.prog W 0 (fun _ => true) true 26 v d ps) :
    ∃ l : List Nat, HistAt W v l ∧ Short l.length := by
  obtain ⟨fuel, hf⟩ := h
  obtain ⟨A, len, cap, rfl⟩ := okWide_slice Tryz.underlying26 hv
  have hf' : DataW.trod enc Tryz.prog W 0 (fun _ => true) true fuel 26 [.slice A len cap] = some (d, ps) := by simpa [Value.cells] using hf
  obtain ⟨xs, h1, _, h2⟩ := rows_of (P := U32At) (G := fun _ => True) (n := 1) Tryz.underlying26 k40 (by decide) (fun b o fuel cs y hc ht => by
    obtain ⟨k, hk, _, hw⟩ := DataW.trod_int Tryz.underlying40 ht
    subst hk
    simp [Lit.wf] at hw
    have hmin : IntKind.u32.min = 0 := by decide
    have hmax : IntKind.u32.max = 4294967295 := by decide
    have h0 := (cells_at hc).2 0 (by decide)
    have hk0 : ((k.toNat : Nat) : Int) = k := by omega
    refine ⟨k.toNat, ⟨?_, by omega⟩, trivial⟩
    rw [hk0]
    exact h0) hf'
  exact ⟨xs, h1, h2⟩
set_option maxRecDepth 100000 in
/-- the numbers that an argument holds -/
theorem nums_of_arg {v : Value} {d : DataW H} {ps : List MemPlace} (hv : Value.okWide Tryz.prog W .any base 27 v) (h : DataW.Trod enc Tryz.prog W 0 (fun _ => true) true 27 v d ps) :
    ∃ l : List Int, ListAt W v l ∧ Short l.length := by
  obtain ⟨fuel, hf⟩ := h
  obtain ⟨A, len, cap, rfl⟩ := okWide_slice Tryz.underlying27 hv
  have hf' : DataW.trod enc Tryz.prog W 0 (fun _ => true) true fuel 27 [.slice A len cap] = some (d, ps) := by simpa [Value.cells] using hf
  exact ints_of hf'
end
end Go.Proofs.YtdkmloldajhdaaaGreatDoor
