/- A uint32 and a []int64 argument opened. -/
import Derived.Test.YtfmlicpholjjhaaGreatDoorCarg
import Derived.Test.YtfmlicpholjjhaaGreatDoorErul
namespace Go.Proofs.YtfmlicpholjjhaaGreatDoor
open Go.ChangeShapes Go.WideShapes Go.ChangeAt Go.RowKit
set_option linter.unusedVariables false

section
variable {H : Type} {enc : TypeId × Value → H} {W : World} {base : Nat}
set_option maxRecDepth 100000 in
theorem u32_of_arg {v : Value} {d : DataW H} {ps : List MemPlace} (hv : Value.okWide Tryz.prog W .any base 42 v) (h : DataW.Trod enc Tryz.prog W 0 (fun _ => true) true 42 v d ps) :
    ∃ n : Nat, v = .int .u32 (n : Int) ∧ n < 4294967296 := by
  obtain ⟨fuel, hf⟩ := h
  obtain ⟨k, rfl⟩ := okWide_int Tryz.underlying42 hv
  have hf' : DataW.trod enc Tryz.prog W 0 (fun _ => true) true fuel 42 [.int .u32 k] = some (d, ps) := by simpa [Value.cells] using hf
  obtain ⟨k', hk, _, hw⟩ := DataW.trod_int Tryz.underlying42 hf'
  injection hk with hk _
  injection hk with _ hk
  subst hk
  simp [Lit.wf] at hw
  have hmin : IntKind.u32.min = 0 := by decide
  have hmax : IntKind.u32.max = 4294967295 := by decide
  exact ⟨k.toNat, by congr 1; omega, by omega⟩
theorem k64 : Tryz.prog.cellsOf 2 = 1 := by kernel_rfl
set_option maxRecDepth 100000 in
/-- the variables that an argument holds -/
theorem vars_of_arg {v : Value} {d : DataW H} {ps : List MemPlace} (hv : Value.okWide Tryz.prog W .any base 26 v) (h : DataW.Trod enc Tryz.prog W 0 (fun _ => true) true 26 v d ps) :
    ∃ l : List Int, NumsAt W v l ∧ (∀ x ∈ l, F64 x) ∧ Short l.length := by
  obtain ⟨fuel, hf⟩ := h
  obtain ⟨A, len, cap, rfl⟩ := okWide_slice Tryz.underlying26 hv
  have hf' : DataW.trod enc Tryz.prog W 0 (fun _ => true) true fuel 26 [.slice A len cap] = some (d, ps) := by simpa [Value.cells] using hf
  obtain ⟨xs, h1, hg, h2⟩ := rows_of (P := IntAt) (G := F64) (n := 1) Tryz.underlying26 k64 (by decide) (fun b o fuel cs y hc ht => by
    obtain ⟨k, hk, _, hw⟩ := DataW.trod_int Tryz.underlying2 ht
    subst hk
    simp only [Lit.wf, Bool.and_eq_true, decide_eq_true_eq] at hw
    exact ⟨k, (cells_at hc).2 0 (by decide), hw⟩) hf'
  refine ⟨xs, ?_, fun x hx => (List.getElem?_of_mem hx).elim fun i hi => hg i x hi, h2⟩
  obtain ⟨A', cap', hv', hc', hi⟩ := h1
  refine ⟨A', cap', hv', hc', fun i x hx => ?_⟩
  obtain ⟨b, o, hA, hb, hcell⟩ := hi i x hx
  exact ⟨b, o, hA, hb, by unfold IntAt at hcell; rwa [Nat.mul_one] at hcell⟩
end
end Go.Proofs.YtfmlicpholjjhaaGreatDoor
