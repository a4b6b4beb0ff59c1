/- Arguments that are rows of numbers and of deeds: what their reading gives the walks. -/
import Derived.Test.YtmolegodfepmnaaMgen
import Derived.Lib.AtoiErrMem
import Derived.Lib.SmallJoins
import Derived.Deep.Slices
import Derived.ChangeArms
namespace Go.Proofs.Ytmolegodfepmnaa
open Go.ChangeShapes Go.WideShapes Go.ChangeAt Go.RowKit
set_option linter.unusedVariables false

def RowsAt {α : Type} (n : Nat) (P : World → Nat → Nat → α → Prop) (w : World) (v : Value) (xs : List α) : Prop :=
  ∃ (A : Option Addr) (cap : Nat), v = .slice A xs.length cap ∧ xs.length ≤ cap ∧ ∀ (i : Nat) (x : α), xs[i]? = some x → ∃ b o : Nat, A = some ⟨b, o, none⟩ ∧ b < w.heap.size ∧ P w b (o + i * n) x
def Keeps {α : Type} (P : World → Nat → Nat → α → Prop) : Prop := ∀ (w w' : World) (b o : Nat) (x : α), Below w.heap.size w w' → b < w.heap.size → P w b o x → P w' b o x
theorem RowsAt.below {α : Type} {n : Nat} {P : World → Nat → Nat → α → Prop} (hP : Keeps P) {w w' : World} {v : Value} {xs : List α} (h : RowsAt n P w v xs) (hb : Below w.heap.size w w') : RowsAt n P w' v xs := by
  obtain ⟨A, cap, hv, hc, hi⟩ := h
  refine ⟨A, cap, hv, hc, fun i t ht => ?_⟩
  obtain ⟨b, o, hA, hlt, h0⟩ := hi i t ht
  exact ⟨b, o, hA, Nat.lt_of_lt_of_le hlt hb.size, hP w w' b _ t hb hlt h0⟩
theorem RowsAt.nil {α : Type} {n : Nat} {P : World → Nat → Nat → α → Prop} (w : World) : RowsAt n P w (.slice none 0 0) ([] : List α) := ⟨none, 0, rfl, Nat.le_refl _, fun i t h => by simp at h⟩
def Short (n : Nat) : Prop := n ≤ 9223372036854775807
def IntAt (w : World) (b o : Nat) (x : Int) : Prop := w.cell? ⟨b, o, none⟩ = some (.int .i64 x)
theorem IntAt.keeps : Keeps IntAt := fun w w' b o x hb hlt h => (hb.cell (p := ⟨b, o, none⟩) hlt).trans h
def ListAt (w : World) (v : Value) (xs : List Int) : Prop := RowsAt 1 IntAt w v xs
theorem ListAt.below {w w' : World} {v : Value} {xs : List Int} (h : ListAt w v xs) (hb : Below w.heap.size w w') : ListAt w' v xs := RowsAt.below IntAt.keeps h hb
theorem RowsAt.slice {α : Type} {n : Nat} {P : World → Nat → Nat → α → Prop} {w : World} {v : Value} {xs : List α} (h : RowsAt n P w v xs) : ∃ A cap, v = .slice A xs.length cap ∧ xs.length ≤ cap := let ⟨A, cap, h1, h2, _⟩ := h; ⟨A, cap, h1, h2⟩
theorem list_of {α : Type} (P : Nat → α → Prop) : ∀ (len : Nat), (∀ i, i < len → ∃ x, P i x) → ∃ xs : List α, xs.length = len ∧ ∀ (i : Nat) (x : α), xs[i]? = some x → P i x
  | 0, _ => ⟨[], rfl, fun i x h => by simp at h⟩
  | n + 1, h => by
    obtain ⟨xs, hl, hx⟩ := list_of P n (fun i hi => h i (by omega))
    obtain ⟨y, hy⟩ := h n (by omega)
    refine ⟨xs ++ [y], by simp [hl], fun i x hi => ?_⟩
    by_cases hin : i < xs.length
    · rw [List.getElem?_append_left hin] at hi
      exact hx i x hi
    · rw [List.getElem?_append_right (by omega)] at hi
      have hi0 : i - xs.length = 0 := by
        have := (List.getElem?_eq_some_iff.1 hi).1
        simp at this
        omega
      rw [hi0] at hi
      simp at hi
      subst hi
      rw [show i = n by omega]
      exact hy
theorem flat_of_cell {W : World} {a : Addr} {v : Value} (h : W.cell? a = some v) : a = ⟨a.block, a.off, none⟩ := by
  obtain ⟨b, o, s⟩ := a
  unfold World.cell? at h
  split at h
  · cases s with
    | none => rfl
    | some x => simp at h
  · cases h
theorem flat_add (b o i : Nat) : (⟨b, o, none⟩ : Addr).add i = ⟨b, o + i, none⟩ := by
  unfold Addr.add
  by_cases h : i = 0 <;> simp [h]
section
variable {H : Type} {enc : TypeId × Value → H} {W : World} {base : Nat}
theorem k3 : Try.prog.cellsOf 3 = 1 := by kernel_rfl
theorem cells_at {b o n : Nat} {cs : List Value} (h : W.cells? 0 ⟨b, o, none⟩ n = some cs) : cs.length = n ∧ ∀ j, j < n → W.cell? ⟨b, o + j, none⟩ = cs[j]? := by
  obtain ⟨_, hl, z⟩ := World.cells?_some h
  refine ⟨hl, fun j hj => ?_⟩
  have := z j hj
  rwa [flat_add] at this
theorem rows_of {α : Type} {n : Nat} {P : World → Nat → Nat → α → Prop} {G : α → Prop} {st e : TypeId} (hst : Try.prog.underlying st = some (.slice e)) (hn : Try.prog.cellsOf e = n) (hpos : 0 < n)
    (hel : ∀ (b o fuel : Nat) (cs : List Value) (y : DataW H × List MemPlace), W.cells? 0 ⟨b, o, none⟩ n = some cs → DataW.trod enc Try.prog W 0 (fun _ => true) true fuel e cs = some y → ∃ x, P W b o x ∧ G x)
    {v : Value} {fuel : Nat} {y : DataW H × List MemPlace} (hf : DataW.trod enc Try.prog W 0 (fun _ => true) true fuel st [v] = some y) :
    ∃ xs : List α, RowsAt n P W v xs ∧ (∀ (i : Nat) (x : α), xs[i]? = some x → G x) ∧ Short xs.length := by
  rcases Deep.open_slice hst hf with ⟨h0, _⟩ | ⟨a, len, cap, m, n', D, Pl, hcs, hb, hl, hm, hmm, hx, hi⟩
  · simp only [List.cons.injEq, and_true] at h0
    subst h0
    exact ⟨[], RowsAt.nil W, fun i x h => by simp at h, by unfold Short; simp⟩
  · simp only [List.cons.injEq, and_true] at hcs
    subst hcs
    simp only [if_true] at hmm
    subst hmm
    rw [hn] at hi
    have hsh : Short len := by unfold maxLen at hm; unfold Short; omega
    by_cases hlen : len = 0
    · subst hlen
      exact ⟨[], ⟨some a, m, rfl, Nat.zero_le _, fun i x h => by simp at h⟩, fun i x h => by simp at h, hsh⟩
    · have ha : a = ⟨a.block, a.off, none⟩ := by
        obtain ⟨cs', hc, _⟩ := hi 0 (by omega)
        obtain ⟨_, hcl, z⟩ := World.cells?_some hc
        have z0 := z 0 hpos
        rw [List.getElem?_eq_getElem (by omega), Nat.zero_mul] at z0
        have e1 : (a.add 0).add 0 = a := by simp [Addr.add]
        rw [e1] at z0
        exact flat_of_cell z0
      rw [ha] at hi ⊢
      generalize a.block = b at *
      generalize a.off = o at *
      obtain ⟨xs, hxl, hxs⟩ := list_of (fun i (x : α) => b < W.heap.size ∧ P W b (o + i * n) x ∧ G x) len (fun i hil => by
        obtain ⟨cs', hc, ht⟩ := hi i (by omega)
        rw [flat_add] at hc
        obtain ⟨hcl, hat⟩ := cells_at hc
        have h0 := hat 0 hpos
        rw [List.getElem?_eq_getElem (by omega)] at h0
        obtain ⟨x, h1, h2⟩ := hel b (o + i * n) _ cs' _ hc ht
        exact ⟨x, Lib.lt_of_cell (a := ⟨b, _, none⟩) h0, h1, h2⟩)
      refine ⟨xs, ⟨some ⟨b, o, none⟩, m, by rw [hxl], by rw [hxl]; exact hl, fun i x hx => ?_⟩, fun i x hx => (hxs i x hx).2.2, by rw [hxl]; exact hsh⟩
      obtain ⟨q1, q2, _⟩ := hxs i x hx
      exact ⟨b, o, rfl, q1, q2⟩
theorem ints_of {v : Value} {fuel : Nat} {y : DataW H × List MemPlace} (hf : DataW.trod enc Try.prog W 0 (fun _ => true) true fuel 30 [v] = some y) : ∃ xs : List Int, ListAt W v xs ∧ Short xs.length := by
  obtain ⟨xs, h1, _, h2⟩ := rows_of (P := IntAt) (G := fun _ => True) (n := 1) Try.underlying30 k3 (by decide) (fun b o fuel cs y hc ht => by
    obtain ⟨k, hk, _⟩ := DataW.trod_int Try.underlying3 ht
    subst hk
    have := (cells_at hc).2 0 (by decide)
    exact ⟨k, this, trivial⟩) hf
  exact ⟨xs, h1, h2⟩
set_option maxRecDepth 100000 in
theorem nums_of_arg {v : Value} {d : DataW H} {ps : List MemPlace} (hv : Value.okWide Try.prog W .any base 30 v) (h : DataW.Trod enc Try.prog W 0 (fun _ => true) true 30 v d ps) :
    ∃ l : List Int, ListAt W v l ∧ Short l.length := by
  obtain ⟨fuel, hf⟩ := h
  obtain ⟨A, len, cap, rfl⟩ := okWide_slice Try.underlying30 hv
  have hf' : DataW.trod enc Try.prog W 0 (fun _ => true) true fuel 30 [.slice A len cap] = some (d, ps) := by simpa [Value.cells] using hf
  exact ints_of hf'
def DeedAt (w : World) (b o : Nat) (x : Int × Int) : Prop := w.cell? ⟨b, o, none⟩ = some (.int .i64 x.1) ∧ w.cell? ⟨b, o + 1, none⟩ = some (.int .i64 x.2)
theorem DeedAt.keeps : Keeps DeedAt := fun w w' b o x hb hlt h => ⟨(hb.cell (p := ⟨b, o, none⟩) hlt).trans h.1, (hb.cell (p := ⟨b, o + 1, none⟩) hlt).trans h.2⟩
theorem kDeed : Try.prog.cellsOf 33 = 2 := by kernel_rfl
set_option maxRecDepth 100000 in
/-- the deeds that an argument holds -/
theorem deeds_of_arg {v : Value} {d : DataW H} {ps : List MemPlace} (hv : Value.okWide Try.prog W .any base 22 v) (h : DataW.Trod enc Try.prog W 0 (fun _ => true) true 22 v d ps) :
    ∃ l : List (Int × Int), RowsAt 2 DeedAt W v l ∧ (∀ (i : Nat) (x : Int × Int), l[i]? = some x → -9223372036854775808 ≤ x.1 ∧ x.1 ≤ 9223372036854775807) ∧ Short l.length := by
  obtain ⟨fuel, hf⟩ := h
  obtain ⟨A, len, cap, rfl⟩ := okWide_slice Try.underlying22 hv
  have hf' : DataW.trod enc Try.prog W 0 (fun _ => true) true fuel 22 [.slice A len cap] = some (d, ps) := by simpa [Value.cells] using hf
  exact rows_of (P := DeedAt) (G := fun x => -9223372036854775808 ≤ x.1 ∧ x.1 ≤ 9223372036854775807) (n := 2) Try.underlying22 kDeed (by decide) (fun b o fuel cs y hc ht => by
    obtain ⟨hcl, hat⟩ := cells_at hc
    obtain ⟨xs, m, _, _, hlen, hxs, hg⟩ := DataW.trod_struct Try.underlying33 ht
    match cs, hcl with
    | [v0, v1], _ =>
      match xs, hxs with
      | [x0, x1], _ =>
        have g0 : DataW.trod enc Try.prog W 0 (fun _ => true) true m 3 (([v0, v1].drop 0).take (Try.prog.cellsOf 3)) = some x0 := hg 0 _ rfl
        have g1 : DataW.trod enc Try.prog W 0 (fun _ => true) true m 3 (([v0, v1].drop 1).take (Try.prog.cellsOf 3)) = some x1 := hg 1 _ rfl
        rw [k3] at g0 g1
        obtain ⟨k, hk, _, hw⟩ := DataW.trod_int Try.underlying3 (show DataW.trod enc Try.prog W 0 (fun _ => true) true m 3 [v0] = some x0 from g0)
        obtain ⟨n, hn, _⟩ := DataW.trod_int Try.underlying3 (show DataW.trod enc Try.prog W 0 (fun _ => true) true m 3 [v1] = some x1 from g1)
        simp only [List.cons.injEq, and_true] at hk hn
        subst hk; subst hn
        simp [Lit.wf] at hw
        have hmin : IntKind.i64.min = -9223372036854775808 := by decide
        have hmax : IntKind.i64.max = 9223372036854775807 := by decide
        exact ⟨(k, n), ⟨hat 0 (by decide), hat 1 (by decide)⟩, by omega⟩) hf'
end
end Go.Proofs.Ytmolegodfepmnaa
