/- An argument that is a chart: what its reading gives the walks. -/
import Derived.Test.YtafcbgapllkghaaGreatDoorCref
import Derived.Lib.AtoiErrMem
import Derived.Lib.SmallJoins
import Derived.Deep.Slices
import Derived.ChangeArms
import Derived.Test.YtafcbgapllkghaaGreatDoorErul
namespace Go.Proofs.YtafcbgapllkghaaGreatDoor
open Go.ChangeShapes Go.WideShapes Go.ChangeAt Go.RowKit
set_option linter.unusedVariables false

theorem list_of {α : Type} (P : Nat → α → Prop) : ∀ (len : Nat), (∀ i, i < len → ∃ x, P i x) → ∃ xs : List α, xs.length = len ∧ ∀ (i : Nat) (x : α), xs[i]? = some x → P i x
  | 0, _ => ⟨[], rfl, fun i x h => by simp at h⟩
  | n + 1, h => by
    obtain ⟨xs, hl, hx⟩ := list_of P n (fun i hi => h i (by omega))
    obtain ⟨y, hy⟩ := h n (by omega)
    refine ⟨xs ++ [y], by simp [hl], fun i x hi => ?_⟩
    by_cases hin : i < xs.length
    · rw [List.getElem?_append_left hin] at hi
      exact hx i x hi
    · rw [List.getElem?_append_right (by omega)] at hi
      have hi0 : i - xs.length = 0 := by
        have := (List.getElem?_eq_some_iff.1 hi).1
        simp at this
        omega
      rw [hi0] at hi
      simp at hi
      subst hi
      rw [show i = n by omega]
      exact hy
theorem flat_of_cell {W : World} {a : Addr} {v : Value} (h : W.cell? a = some v) : a = ⟨a.block, a.off, none⟩ := by
  obtain ⟨b, o, s⟩ := a
  unfold World.cell? at h
  split at h
  · cases s with
    | none => rfl
    | some x => simp at h
  · cases h
theorem flat_add (b o i : Nat) : (⟨b, o, none⟩ : Addr).add i = ⟨b, o + i, none⟩ := by
  unfold Addr.add
  by_cases h : i = 0 <;> simp [h]

section
variable {H : Type} {enc : TypeId × Value → H} {W : World}
theorem k3 : Tryz.prog.cellsOf 3 = 1 := by kernel_rfl
theorem k4 : Tryz.prog.cellsOf 4 = 1 := by kernel_rfl
theorem k9 : Tryz.prog.cellsOf 9 = 1 := by kernel_rfl
theorem k29 : Tryz.prog.cellsOf 27 = 1 := by kernel_rfl
theorem k36 : Tryz.prog.cellsOf 22 = 1 := by kernel_rfl
theorem k54 : Tryz.prog.cellsOf 35 = 4 := by kernel_rfl

/-- the five, four .. cells of an element, one by one -/
theorem cells_at {b o n : Nat} {cs : List Value} (h : W.cells? 0 ⟨b, o, none⟩ n = some cs) : cs.length = n ∧ ∀ j, j < n → W.cell? ⟨b, o + j, none⟩ = cs[j]? := by
  obtain ⟨_, hl, z⟩ := World.cells?_some h
  refine ⟨hl, fun j hj => ?_⟩
  have := z j hj
  rwa [flat_add] at this
/-- a slice that reads as data, its elements as these -/
theorem rows_of {α : Type} {n : Nat} {P : World → Nat → Nat → α → Prop} {G : α → Prop} {st e : TypeId} (hst : Tryz.prog.underlying st = some (.slice e)) (hn : Tryz.prog.cellsOf e = n) (hpos : 0 < n)
    (hel : ∀ (b o fuel : Nat) (cs : List Value) (y : DataW H × List MemPlace), W.cells? 0 ⟨b, o, none⟩ n = some cs → DataW.trod enc Tryz.prog W 0 (fun _ => true) true fuel e cs = some y → ∃ x, P W b o x ∧ G x)
    {v : Value} {fuel : Nat} {y : DataW H × List MemPlace} (hf : DataW.trod enc Tryz.prog W 0 (fun _ => true) true fuel st [v] = some y) :
    ∃ xs : List α, RowsAt n P W v xs ∧ (∀ (i : Nat) (x : α), xs[i]? = some x → G x) ∧ Short xs.length := by
  rcases Deep.open_slice hst hf with ⟨h0, _⟩ | ⟨a, len, cap, m, n', D, Pl, hcs, hb, hl, hm, hmm, hx, hi⟩
  · simp only [List.cons.injEq, and_true] at h0
    subst h0
    exact ⟨[], RowsAt.nil W, fun i x h => by simp at h, by unfold Short; simp⟩
  · simp only [List.cons.injEq, and_true] at hcs
    subst hcs
    simp only [if_true] at hmm
    subst hmm
    rw [hn] at hi
    have hsh : Short len := by unfold maxLen at hm; unfold Short; omega
    by_cases hlen : len = 0
    · subst hlen
      exact ⟨[], ⟨some a, m, rfl, Nat.zero_le _, fun i x h => by simp at h⟩, fun i x h => by simp at h, hsh⟩
    · have ha : a = ⟨a.block, a.off, none⟩ := by
        obtain ⟨cs', hc, _⟩ := hi 0 (by omega)
        obtain ⟨_, hcl, z⟩ := World.cells?_some hc
        have z0 := z 0 hpos
        rw [List.getElem?_eq_getElem (by omega), Nat.zero_mul] at z0
        have e1 : (a.add 0).add 0 = a := by simp [Addr.add]
        rw [e1] at z0
        exact flat_of_cell z0
      rw [ha] at hi ⊢
      generalize a.block = b at *
      generalize a.off = o at *
      obtain ⟨xs, hxl, hxs⟩ := list_of (fun i (x : α) => b < W.heap.size ∧ P W b (o + i * n) x ∧ G x) len (fun i hil => by
        obtain ⟨cs', hc, ht⟩ := hi i (by omega)
        rw [flat_add] at hc
        obtain ⟨hcl, hat⟩ := cells_at hc
        have h0 := hat 0 hpos
        rw [List.getElem?_eq_getElem (by omega)] at h0
        obtain ⟨x, h1, h2⟩ := hel b (o + i * n) _ cs' _ hc ht
        exact ⟨x, Lib.lt_of_cell (a := ⟨b, _, none⟩) h0, h1, h2⟩)
      refine ⟨xs, ⟨some ⟨b, o, none⟩, m, by rw [hxl], by rw [hxl]; exact hl, fun i x hx => ?_⟩, fun i x hx => (hxs i x hx).2.2, by rw [hxl]; exact hsh⟩
      obtain ⟨q1, q2, _⟩ := hxs i x hx
      exact ⟨b, o, rfl, q1, q2⟩
theorem ints_of {v : Value} {fuel : Nat} {y : DataW H × List MemPlace} (hf : DataW.trod enc Tryz.prog W 0 (fun _ => true) true fuel 27 [v] = some y) : ∃ xs : List Int, ListAt W v xs ∧ Short xs.length := by
  obtain ⟨xs, h1, _, h2⟩ := rows_of (P := IntAt) (G := fun _ => True) (n := 1) Tryz.underlying27 k3 (by decide) (fun b o fuel cs y hc ht => by
    obtain ⟨k, hk, _⟩ := DataW.trod_int Tryz.underlying3 ht
    subst hk
    have := (cells_at hc).2 0 (by decide)
    exact ⟨k, this, trivial⟩) hf
  exact ⟨xs, h1, h2⟩
set_option maxRecDepth 100000 in
theorem acts_of {v : Value} {fuel : Nat} {y : DataW H × List MemPlace} (hf : DataW.trod enc Tryz.prog W 0 (fun _ => true) true fuel 22 [v] = some y) : ∃ xs : List Ac, ActsAt W v xs ∧ Short xs.length := by
  obtain ⟨xs, h1, _, h2⟩ := rows_of (P := AcAt) (G := fun _ => True) (n := 4) Tryz.underlying22 k54 (by decide) (fun b o fuel cs y hc ht => by
    obtain ⟨hcl, hat⟩ := cells_at hc
    obtain ⟨xs, m, _, _, hlen, hxs, hg⟩ := DataW.trod_struct Tryz.underlying35 ht
    match cs, hcl with
    | [v0, v1, v2, v3], _ =>
      match xs, hxs with
      | [x0, x1, x2, x3], _ =>
        have g0 : DataW.trod enc Tryz.prog W 0 (fun _ => true) true m 3 (([v0, v1, v2, v3].drop 0).take (Tryz.prog.cellsOf 3)) = some x0 := hg 0 _ rfl
        have g1 : DataW.trod enc Tryz.prog W 0 (fun _ => true) true m 3 (([v0, v1, v2, v3].drop 1).take (Tryz.prog.cellsOf 3)) = some x1 := hg 1 _ rfl
        have g2 : DataW.trod enc Tryz.prog W 0 (fun _ => true) true m 3 (([v0, v1, v2, v3].drop 2).take (Tryz.prog.cellsOf 3)) = some x2 := hg 2 _ rfl
        have g3 : DataW.trod enc Tryz.prog W 0 (fun _ => true) true m 9 (([v0, v1, v2, v3].drop 3).take (Tryz.prog.cellsOf 9)) = some x3 := hg 3 _ rfl
        rw [k3] at g0 g1 g2
        rw [k9] at g3
        obtain ⟨k, hk, _⟩ := DataW.trod_int Tryz.underlying3 (show DataW.trod enc Tryz.prog W 0 (fun _ => true) true m 3 [v0] = some x0 from g0)
        obtain ⟨n, hn, _⟩ := DataW.trod_int Tryz.underlying3 (show DataW.trod enc Tryz.prog W 0 (fun _ => true) true m 3 [v1] = some x1 from g1)
        obtain ⟨q, hq, _⟩ := DataW.trod_int Tryz.underlying3 (show DataW.trod enc Tryz.prog W 0 (fun _ => true) true m 3 [v2] = some x2 from g2)
        obtain ⟨s, hs, _⟩ := DataW.trod_string Tryz.underlying9 (show DataW.trod enc Tryz.prog W 0 (fun _ => true) true m 9 [v3] = some x3 from g3)
        simp only [List.cons.injEq, and_true] at hk hn hq hs
        subst hk; subst hn; subst hq; subst hs
        exact ⟨⟨k, n, q, s⟩, ⟨hat 0 (by decide), hat 1 (by decide), hat 2 (by decide), hat 3 (by decide)⟩, trivial⟩) hf
  exact ⟨xs, h1, h2⟩
set_option maxRecDepth 100000 in
theorem int_of_arg {base : Nat} {v : Value} (hv : Value.okWide Tryz.prog W .any base 3 v) : ∃ k : Int, v = .int .i64 k := okWide_int Tryz.underlying3 hv
end
end Go.Proofs.YtafcbgapllkghaaGreatDoor
/- A uint32 and a []int64 argument opened. -/
namespace Go.Proofs.YtafcbgapllkghaaGreatDoor
open Go.ChangeShapes Go.WideShapes Go.ChangeAt Go.RowKit
set_option linter.unusedVariables false

section
variable {H : Type} {enc : TypeId × Value → H} {W : World} {base : Nat}
set_option maxRecDepth 100000 in
theorem u32_of_arg {v : Value} {d : DataW H} {ps : List MemPlace} (hv : Value.okWide Tryz.prog W .any base 148 v) (h : DataW.Trod enc Tryz.prog W 0 (fun _ => true) true 148 v d ps) :
    ∃ n : Nat, v = .int .u32 (n : Int) ∧ n < 4294967296 := by
  obtain ⟨fuel, hf⟩ := h
  obtain ⟨k, rfl⟩ := okWide_int Tryz.underlying148 hv
  have hf' : DataW.trod enc Tryz.prog W 0 (fun _ => true) true fuel 148 [.int .u32 k] = some (d, ps) := by simpa [Value.cells] using hf
  obtain ⟨k', hk, _, hw⟩ := DataW.trod_int Tryz.underlying148 hf'
  injection hk with hk _
  injection hk with _ hk
  subst hk
  simp [Lit.wf] at hw
  have hmin : IntKind.u32.min = 0 := by decide
  have hmax : IntKind.u32.max = 4294967295 := by decide
  exact ⟨k.toNat, by congr 1; omega, by omega⟩
theorem k64 : Tryz.prog.cellsOf 2 = 1 := by kernel_rfl
set_option maxRecDepth 100000 in
/-- the variables that an argument holds -/
theorem vars_of_arg {v : Value} {d : DataW H} {ps : List MemPlace} (hv : Value.okWide Tryz.prog W .any base 23 v) (h : DataW.Trod enc Tryz.prog W 0 (fun _ => true) true 23 v d ps) :
    ∃ l : List Int, NumsAt W v l ∧ (∀ x ∈ l, F64 x) ∧ Short l.length := by
  obtain ⟨fuel, hf⟩ := h
  obtain ⟨A, len, cap, rfl⟩ := okWide_slice Tryz.underlying23 hv
  have hf' : DataW.trod enc Tryz.prog W 0 (fun _ => true) true fuel 23 [.slice A len cap] = some (d, ps) := by simpa [Value.cells] using hf
  obtain ⟨xs, h1, hg, h2⟩ := rows_of (P := IntAt) (G := F64) (n := 1) Tryz.underlying23 k64 (by decide) (fun b o fuel cs y hc ht => by
    obtain ⟨k, hk, _, hw⟩ := DataW.trod_int Tryz.underlying2 ht
    subst hk
    simp only [Lit.wf, Bool.and_eq_true, decide_eq_true_eq] at hw
    exact ⟨k, (cells_at hc).2 0 (by decide), hw⟩) hf'
  refine ⟨xs, ?_, fun x hx => (List.getElem?_of_mem hx).elim fun i hi => hg i x hi, h2⟩
  obtain ⟨A', cap', hv', hc', hi⟩ := h1
  refine ⟨A', cap', hv', hc', fun i x hx => ?_⟩
  obtain ⟨b, o, hA, hb, hcell⟩ := hi i x hx
  exact ⟨b, o, hA, hb, by unfold IntAt at hcell; rwa [Nat.mul_one] at hcell⟩
end
end Go.Proofs.YtafcbgapllkghaaGreatDoor
