/- An argument that is a slice of 64-bit numbers: what its reading gives the walks. -/
import Derived.Test.YtoiflidlnajbdaaDoorZarg
import Derived.Test.YtoiflidlnajbdaaDoorErul
namespace Go.Proofs.YtoiflidlnajbdaaDoor
open Go.ChangeShapes Go.WideShapes Go.ChangeAt Go.RowKit
set_option linter.unusedVariables false

section
variable {H : Type} {enc : TypeId × Value → H} {W : World} {base : Nat}
set_option maxRecDepth 100000 in
theorem nums_of_arg {v : Value} {d : DataW H} {ps : List MemPlace} (hv : Value.okWide Tryd.prog W .any base 32 v) (h : DataW.Trod enc Tryd.prog W 0 (fun _ => true) true 32 v d ps) :
    ∃ (A : Option Addr) (cap : Nat) (xs : List Int), v = .slice A xs.length cap ∧ NumsAt W v xs ∧ (∀ x ∈ xs, F64 x) ∧ Short xs.length := by
  obtain ⟨fuel, hf⟩ := h
  obtain ⟨A, len, cap, rfl⟩ := okWide_slice Tryd.underlying32 hv
  rcases Deep.open_slice Tryd.underlying32 hf with ⟨h0, _⟩ | ⟨a, len', cap', m, n, D, Pl, hcs, hb, hl, hm, hmm, hx, hi⟩
  · simp [Value.cells] at h0
    obtain ⟨rfl, rfl, rfl⟩ := h0
    exact ⟨none, 0, [], rfl, ⟨none, 0, rfl, Nat.le_refl _, fun i t h => by simp at h⟩, by simp, by unfold Short; simp⟩
  · simp [Value.cells] at hcs
    obtain ⟨rfl, rfl, rfl⟩ := hcs
    simp only [if_true] at hmm
    subst hmm
    have hall : ∀ i, i < len → ∃ x : Int, W.cells? 0 (a.add (i * 1)) 1 = some [.int .i64 x] ∧ F64 x := by
      intro i hil
      obtain ⟨cs', hc, ht⟩ := hi i (by omega)
      rw [c2] at hc
      obtain ⟨n', hn, _, hw⟩ := DataW.trod_int Tryd.underlying2 ht
      subst hn
      simp only [Lit.wf, Bool.and_eq_true, decide_eq_true_eq] at hw
      exact ⟨n', hc, hw⟩
    let f : Nat → Int := fun i => if h : i < len then (hall i h).choose else 0
    have hfi : ∀ i, i < len → W.cells? 0 (a.add (i * 1)) 1 = some [.int .i64 (f i)] ∧ F64 (f i) := by
      intro i h
      have e : f i = (hall i h).choose := dif_pos h
      rw [e]
      exact (hall i h).choose_spec
    have hlen : ((List.range len).map f).length = len := by simp
    refine ⟨some a, m, (List.range len).map f, by rw [hlen], ⟨some a, m, by rw [hlen], by rw [hlen]; exact hl, ?_⟩, ?_, by rw [hlen]; unfold maxLen at hm; unfold Short; omega⟩
    · intro i t hit
      have hil : i < len := by
        have := (List.getElem?_eq_some_iff.1 hit).1
        rwa [hlen] at this
      have ht : f i = t := by
        rw [List.getElem?_map, List.getElem?_range hil] at hit
        simpa using hit
      subst ht
      obtain ⟨_, _, z⟩ := World.cells?_some (hfi 0 (by omega)).1
      have z0 := z 0 (by omega)
      rw [Nat.zero_mul] at z0
      have ha : a = ⟨a.block, a.off, none⟩ := flat_of_cell (v := .int .i64 (f 0)) z0
      obtain ⟨_, _, y⟩ := World.cells?_some (hfi i hil).1
      rw [ha] at y ⊢
      rw [flat_add, Nat.mul_one] at y
      have y0 := y 0 (by omega)
      rw [flat_add] at y0
      exact ⟨a.block, a.off, rfl, Lib.lt_of_cell (a := ⟨a.block, _, none⟩) y0, y0⟩
    · intro t ht
      obtain ⟨i, hi', rfl⟩ := List.mem_map.1 ht
      exact (hfi i (List.mem_range.1 hi')).2
end
end Go.Proofs.YtoiflidlnajbdaaDoor
