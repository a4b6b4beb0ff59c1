/- An argument that is a slice of tokens: what its reading gives the walks. -/
import Derived.Test.YtoiflidlnajbdaaGreatDoorZgen
import Derived.Lib.AtoiErrMem
import Derived.Deep.Slices
import Derived.ChangeArms
import Derived.Test.YtoiflidlnajbdaaGreatDoorErul
namespace Go.Proofs.YtoiflidlnajbdaaGreatDoor
open Go.ChangeShapes Go.WideShapes Go.ChangeAt Go.RowKit
set_option linter.unusedVariables false

def Small (n : Int) : Prop := n ≤ 9223372036854775807
def Short (n : Nat) : Prop := n ≤ 9223372036854775807

section
variable {H : Type} {enc : TypeId × Value → H} {W : World} {base : Nat} {sp : Nat → Bool} {held : Bool}
theorem c40 : Tryz.prog.cellsOf 37 = 3 := by kernel_rfl
theorem c3 : Tryz.prog.cellsOf 3 = 1 := by kernel_rfl
theorem c2 : Tryz.prog.cellsOf 2 = 1 := by kernel_rfl

set_option maxRecDepth 100000 in
theorem tok_of_trod {n : Nat} {cs : List Value} {x : DataW H × List MemPlace} (h : DataW.trod enc Tryz.prog W base sp held n 37 cs = some x) :
    ∃ t : Tk, cs = tkCells t ∧ Small t.2.1 := by
  obtain ⟨xs, m, _, _, hlen, hxs, hf⟩ := DataW.trod_struct Tryz.underlying37 h
  rw [c40] at hlen
  match cs, hlen with
  | [v0, v1, v2], _ =>
    match xs, hxs with
    | [x0, x1, x2], _ =>
      have g0 : DataW.trod enc Tryz.prog W base sp held m 3 (([v0, v1, v2].drop 0).take (Tryz.prog.cellsOf 3)) = some x0 := hf 0 _ rfl
      have g1 : DataW.trod enc Tryz.prog W base sp held m 2 (([v0, v1, v2].drop 1).take (Tryz.prog.cellsOf 2)) = some x1 := hf 1 _ rfl
      have g2 : DataW.trod enc Tryz.prog W base sp held m 3 (([v0, v1, v2].drop 2).take (Tryz.prog.cellsOf 3)) = some x2 := hf 2 _ rfl
      rw [c3] at g0 g2
      rw [c2] at g1
      obtain ⟨k, hk, _⟩ := DataW.trod_int Tryz.underlying3 (show DataW.trod enc Tryz.prog W base sp held m 3 [v0] = some x0 from g0)
      obtain ⟨n', hn, _, hw⟩ := DataW.trod_int Tryz.underlying2 (show DataW.trod enc Tryz.prog W base sp held m 2 [v1] = some x1 from g1)
      obtain ⟨a, ha, _⟩ := DataW.trod_int Tryz.underlying3 (show DataW.trod enc Tryz.prog W base sp held m 3 [v2] = some x2 from g2)
      simp only [List.cons.injEq, and_true] at hk hn ha
      subst hk; subst hn; subst ha
      simp only [Lit.wf, Bool.and_eq_true, decide_eq_true_eq] at hw
      exact ⟨(k, n', a), rfl, hw.2⟩

theorem flat_of_cell {a : Addr} {v : Value} (h : W.cell? a = some v) : a = ⟨a.block, a.off, none⟩ := by
  obtain ⟨b, o, s⟩ := a
  unfold World.cell? at h
  split at h
  · cases s with
    | none => rfl
    | some x => simp at h
  · cases h
theorem flat_add (b o i : Nat) : (⟨b, o, none⟩ : Addr).add i = ⟨b, o + i, none⟩ := by
  unfold Addr.add
  by_cases h : i = 0 <;> simp [h]

set_option maxRecDepth 100000 in
/-- the tokens that an argument holds -/
theorem toks_of_arg {v : Value} {d : DataW H} {ps : List MemPlace} (hv : Value.okWide Tryz.prog W .any base 38 v) (h : DataW.Trod enc Tryz.prog W 0 (fun _ => true) true 38 v d ps) :
    ∃ (A : Option Addr) (cap : Nat) (ts : List Tk), v = .slice A ts.length cap ∧ ToksAt W v ts ∧ (∀ t ∈ ts, Small t.2.1) ∧ Short ts.length := by
  obtain ⟨fuel, hf⟩ := h
  obtain ⟨A, len, cap, rfl⟩ := okWide_slice Tryz.underlying38 hv
  rcases Deep.open_slice Tryz.underlying38 hf with ⟨h0, _⟩ | ⟨a, len', cap', m, n, D, Pl, hcs, hb, hl, hm, hmm, hx, hi⟩
  · simp [Value.cells] at h0
    obtain ⟨rfl, rfl, rfl⟩ := h0
    exact ⟨none, 0, [], rfl, ⟨none, 0, rfl, Nat.le_refl _, fun i t h => by simp at h⟩, by simp, by unfold Short; simp⟩
  · simp [Value.cells] at hcs
    obtain ⟨rfl, rfl, rfl⟩ := hcs
    simp only [if_true] at hmm
    subst hmm
    have hall : ∀ i, i < len → ∃ t : Tk, W.cells? 0 (a.add (i * 3)) 3 = some (tkCells t) ∧ Small t.2.1 := by
      intro i hil
      obtain ⟨cs', hc, ht⟩ := hi i (by omega)
      rw [c40] at hc
      obtain ⟨t, rfl, hn⟩ := tok_of_trod ht
      exact ⟨t, hc, hn⟩
    let f : Nat → Tk := fun i => if h : i < len then (hall i h).choose else (0, 0, 0)
    have hfi : ∀ i, i < len → W.cells? 0 (a.add (i * 3)) 3 = some (tkCells (f i)) ∧ Small (f i).2.1 := by
      intro i h
      have e : f i = (hall i h).choose := dif_pos h
      rw [e]
      exact (hall i h).choose_spec
    have hlen : ((List.range len).map f).length = len := by simp
    refine ⟨some a, m, (List.range len).map f, by rw [hlen], ⟨some a, m, by rw [hlen], by rw [hlen]; exact hl, ?_⟩, ?_, by rw [hlen]; unfold maxLen at hm; unfold Short; omega⟩
    · intro i t hit
      have hil : i < len := by
        have := (List.getElem?_eq_some_iff.1 hit).1
        rwa [hlen] at this
      have ht : f i = t := by
        rw [List.getElem?_map, List.getElem?_range hil] at hit
        simpa using hit
      subst ht
      obtain ⟨_, _, z⟩ := World.cells?_some (hfi 0 (by omega)).1
      have z0 := z 0 (by omega)
      rw [Nat.zero_mul] at z0
      have ha : a = ⟨a.block, a.off, none⟩ := flat_of_cell (v := .int .i64 (f 0).1) z0
      obtain ⟨_, _, y⟩ := World.cells?_some (hfi i hil).1
      rw [ha] at y ⊢
      rw [flat_add] at y
      have y0 := y 0 (by omega)
      have y1 := y 1 (by omega)
      have y2 := y 2 (by omega)
      rw [flat_add] at y0 y1 y2
      exact ⟨a.block, a.off, rfl, Lib.lt_of_cell (a := ⟨a.block, _, none⟩) y0, y0, y1, y2⟩
    · intro t ht
      obtain ⟨i, hi', rfl⟩ := List.mem_map.1 ht
      exact (hfi i (List.mem_range.1 hi')).2
end
end Go.Proofs.YtoiflidlnajbdaaGreatDoor
/- An argument that is a slice of 64-bit numbers: what its reading gives the walks. -/
namespace Go.Proofs.YtoiflidlnajbdaaGreatDoor
open Go.ChangeShapes Go.WideShapes Go.ChangeAt Go.RowKit
set_option linter.unusedVariables false

section
variable {H : Type} {enc : TypeId × Value → H} {W : World} {base : Nat}
set_option maxRecDepth 100000 in
theorem nums_of_arg {v : Value} {d : DataW H} {ps : List MemPlace} (hv : Value.okWide Tryz.prog W .any base 22 v) (h : DataW.Trod enc Tryz.prog W 0 (fun _ => true) true 22 v d ps) :
    ∃ (A : Option Addr) (cap : Nat) (xs : List Int), v = .slice A xs.length cap ∧ NumsAt W v xs ∧ (∀ x ∈ xs, F64 x) ∧ Short xs.length := by
  obtain ⟨fuel, hf⟩ := h
  obtain ⟨A, len, cap, rfl⟩ := okWide_slice Tryz.underlying22 hv
  rcases Deep.open_slice Tryz.underlying22 hf with ⟨h0, _⟩ | ⟨a, len', cap', m, n, D, Pl, hcs, hb, hl, hm, hmm, hx, hi⟩
  · simp [Value.cells] at h0
    obtain ⟨rfl, rfl, rfl⟩ := h0
    exact ⟨none, 0, [], rfl, ⟨none, 0, rfl, Nat.le_refl _, fun i t h => by simp at h⟩, by simp, by unfold Short; simp⟩
  · simp [Value.cells] at hcs
    obtain ⟨rfl, rfl, rfl⟩ := hcs
    simp only [if_true] at hmm
    subst hmm
    have hall : ∀ i, i < len → ∃ x : Int, W.cells? 0 (a.add (i * 1)) 1 = some [.int .i64 x] ∧ F64 x := by
      intro i hil
      obtain ⟨cs', hc, ht⟩ := hi i (by omega)
      rw [c2] at hc
      obtain ⟨n', hn, _, hw⟩ := DataW.trod_int Tryz.underlying2 ht
      subst hn
      simp only [Lit.wf, Bool.and_eq_true, decide_eq_true_eq] at hw
      exact ⟨n', hc, hw⟩
    let f : Nat → Int := fun i => if h : i < len then (hall i h).choose else 0
    have hfi : ∀ i, i < len → W.cells? 0 (a.add (i * 1)) 1 = some [.int .i64 (f i)] ∧ F64 (f i) := by
      intro i h
      have e : f i = (hall i h).choose := dif_pos h
      rw [e]
      exact (hall i h).choose_spec
    have hlen : ((List.range len).map f).length = len := by simp
    refine ⟨some a, m, (List.range len).map f, by rw [hlen], ⟨some a, m, by rw [hlen], by rw [hlen]; exact hl, ?_⟩, ?_, by rw [hlen]; unfold maxLen at hm; unfold Short; omega⟩
    · intro i t hit
      have hil : i < len := by
        have := (List.getElem?_eq_some_iff.1 hit).1
        rwa [hlen] at this
      have ht : f i = t := by
        rw [List.getElem?_map, List.getElem?_range hil] at hit
        simpa using hit
      subst ht
      obtain ⟨_, _, z⟩ := World.cells?_some (hfi 0 (by omega)).1
      have z0 := z 0 (by omega)
      rw [Nat.zero_mul] at z0
      have ha : a = ⟨a.block, a.off, none⟩ := flat_of_cell (v := .int .i64 (f 0)) z0
      obtain ⟨_, _, y⟩ := World.cells?_some (hfi i hil).1
      rw [ha] at y ⊢
      rw [flat_add, Nat.mul_one] at y
      have y0 := y 0 (by omega)
      rw [flat_add] at y0
      exact ⟨a.block, a.off, rfl, Lib.lt_of_cell (a := ⟨a.block, _, none⟩) y0, y0⟩
    · intro t ht
      obtain ⟨i, hi', rfl⟩ := List.mem_map.1 ht
      exact (hfi i (List.mem_range.1 hi')).2
end
end Go.Proofs.YtoiflidlnajbdaaGreatDoor
