/- Arguments that are rows of deeds and of texts: what their reading gives the walks. -/
import Derived.Test.YtpeaajimnggjpaaDup
import Derived.Lib.AtoiErrMem
import Derived.Lib.SmallJoins
import Derived.Deep.Slices
import Derived.ChangeArms
namespace Go.Proofs.Ytpeaajimnggjpaa
open Go.ChangeShapes Go.WideShapes Go.ChangeAt Go.RowKit
set_option linter.unusedVariables false

section
variable {H : Type} {enc : TypeId × Value → H} {W : World} {base : Nat}
theorem k3 : Try.prog.cellsOf 3 = 1 := by kernel_rfl
theorem k9 : Try.prog.cellsOf 9 = 1 := by kernel_rfl
theorem cells_at {b o n : Nat} {cs : List Value} (h : W.cells? 0 ⟨b, o, none⟩ n = some cs) : cs.length = n ∧ ∀ j, j < n → W.cell? ⟨b, o + j, none⟩ = cs[j]? := by
  obtain ⟨_, hl, z⟩ := World.cells?_some h
  refine ⟨hl, fun j hj => ?_⟩
  have := z j hj
  rwa [flat_add] at this
theorem rows_of {α : Type} {n : Nat} {P : World → Nat → Nat → α → Prop} {G : α → Prop} {st e : TypeId} (hst : Try.prog.underlying st = some (.slice e)) (hn : Try.prog.cellsOf e = n) (hpos : 0 < n)
    (hel : ∀ (b o fuel : Nat) (cs : List Value) (y : DataW H × List MemPlace), W.cells? 0 ⟨b, o, none⟩ n = some cs → DataW.trod enc Try.prog W 0 (fun _ => true) true fuel e cs = some y → ∃ x, P W b o x ∧ G x)
    {v : Value} {fuel : Nat} {y : DataW H × List MemPlace} (hf : DataW.trod enc Try.prog W 0 (fun _ => true) true fuel st [v] = some y) :
    ∃ xs : List α, RowsAt n P W v xs ∧ (∀ (i : Nat) (x : α), xs[i]? = some x → G x) ∧ Short xs.length := by
  rcases Deep.open_slice hst hf with ⟨h0, _⟩ | ⟨a, len, cap, m, n', D, Pl, hcs, hb, hl, hm, hmm, hx, hi⟩
  · simp only [List.cons.injEq, and_true] at h0
    subst h0
    exact ⟨[], RowsAt.nil W, fun i x h => by simp at h, by unfold Short; simp⟩
  · simp only [List.cons.injEq, and_true] at hcs
    subst hcs
    simp only [if_true] at hmm
    subst hmm
    rw [hn] at hi
    have hsh : Short len := by unfold maxLen at hm; unfold Short; omega
    by_cases hlen : len = 0
    · subst hlen
      exact ⟨[], ⟨some a, m, rfl, Nat.zero_le _, fun i x h => by simp at h⟩, fun i x h => by simp at h, hsh⟩
    · have ha : a = ⟨a.block, a.off, none⟩ := by
        obtain ⟨cs', hc, _⟩ := hi 0 (by omega)
        obtain ⟨_, hcl, z⟩ := World.cells?_some hc
        have z0 := z 0 hpos
        rw [List.getElem?_eq_getElem (by omega), Nat.zero_mul] at z0
        have e1 : (a.add 0).add 0 = a := by simp [Addr.add]
        rw [e1] at z0
        exact flat_of_cell z0
      rw [ha] at hi ⊢
      generalize a.block = b at *
      generalize a.off = o at *
      obtain ⟨xs, hxl, hxs⟩ := list_of (fun i (x : α) => b < W.heap.size ∧ P W b (o + i * n) x ∧ G x) len (fun i hil => by
        obtain ⟨cs', hc, ht⟩ := hi i (by omega)
        rw [flat_add] at hc
        obtain ⟨hcl, hat⟩ := cells_at hc
        have h0 := hat 0 hpos
        rw [List.getElem?_eq_getElem (by omega)] at h0
        obtain ⟨x, h1, h2⟩ := hel b (o + i * n) _ cs' _ hc ht
        exact ⟨x, Lib.lt_of_cell (a := ⟨b, _, none⟩) h0, h1, h2⟩)
      refine ⟨xs, ⟨some ⟨b, o, none⟩, m, by rw [hxl], by rw [hxl]; exact hl, fun i x hx => ?_⟩, fun i x hx => (hxs i x hx).2.2, by rw [hxl]; exact hsh⟩
      obtain ⟨q1, q2, _⟩ := hxs i x hx
      exact ⟨b, o, rfl, q1, q2⟩
theorem f64_wf {k : Int} (hw : (Lit.int .i64 k).wf = true) : F64 k := by
  simp [Lit.wf] at hw
  have hmin : IntKind.i64.min = -9223372036854775808 := by decide
  have hmax : IntKind.i64.max = 9223372036854775807 := by decide
  unfold F64
  omega

/-- a text in its cell -/
def TxAt (w : World) (b o : Nat) (s : ByteArray) : Prop := w.cell? ⟨b, o, none⟩ = some (.string s)
theorem TxAt.keeps : Keeps TxAt := fun w w' b o x hb hlt h => (hb.cell (p := ⟨b, o, none⟩) hlt).trans h
set_option maxRecDepth 100000 in
theorem texts_of_arg {v : Value} {d : DataW H} {ps : List MemPlace} (hv : Value.okWide Try.prog W .any base 35 v) (h : DataW.Trod enc Try.prog W 0 (fun _ => true) true 35 v d ps) :
    ∃ l : List ByteArray, RowsAt 1 TxAt W v l ∧ Short l.length := by
  obtain ⟨fuel, hf⟩ := h
  obtain ⟨A, len, cap, rfl⟩ := okWide_slice Try.underlying35 hv
  have hf' : DataW.trod enc Try.prog W 0 (fun _ => true) true fuel 35 [.slice A len cap] = some (d, ps) := by simpa [Value.cells] using hf
  obtain ⟨l, h1, _, h2⟩ := rows_of (P := TxAt) (G := fun _ => True) (n := 1) Try.underlying35 k9 (by decide) (fun b o fuel cs y hc ht => by
    obtain ⟨s, hs, _, hw⟩ := DataW.trod_string Try.underlying9 ht
    subst hs
    have := (cells_at hc).2 0 (by decide)
    exact ⟨s, this, trivial⟩) hf'
  exact ⟨l, h1, h2⟩
/-- a deed: what, and a number -/
structure Dd where
  what : Int
  n : Int
def DdAt (w : World) (b o : Nat) (x : Dd) : Prop := w.cell? ⟨b, o, none⟩ = some (.int .i64 x.what) ∧ w.cell? ⟨b, o + 1, none⟩ = some (.int .i64 x.n)
theorem DdAt.keeps : Keeps DdAt := fun w w' b o x hb hlt h => ⟨(hb.cell (p := ⟨b, _, none⟩) hlt).trans h.1, (hb.cell (p := ⟨b, _, none⟩) hlt).trans h.2⟩
theorem kDeed : Try.prog.cellsOf 29 = 2 := by kernel_rfl
def DdG (x : Dd) : Prop := F64 x.what ∧ F64 x.n
set_option maxRecDepth 100000 in
/-- the deeds that an argument holds -/
theorem deeds_of_arg {v : Value} {d : DataW H} {ps : List MemPlace} (hv : Value.okWide Try.prog W .any base 22 v) (h : DataW.Trod enc Try.prog W 0 (fun _ => true) true 22 v d ps) :
    ∃ l : List Dd, RowsAt 2 DdAt W v l ∧ (∀ (i : Nat) (x : Dd), l[i]? = some x → DdG x) ∧ Short l.length := by
  obtain ⟨fuel, hf⟩ := h
  obtain ⟨A, len, cap, rfl⟩ := okWide_slice Try.underlying22 hv
  have hf' : DataW.trod enc Try.prog W 0 (fun _ => true) true fuel 22 [.slice A len cap] = some (d, ps) := by simpa [Value.cells] using hf
  exact rows_of (P := DdAt) (G := DdG) (n := 2) Try.underlying22 kDeed (by decide) (fun b o fuel cs y hc ht => by
    obtain ⟨hcl, hat⟩ := cells_at hc
    obtain ⟨xs, m, _, _, hlen, hxs, hg⟩ := DataW.trod_struct Try.underlying29 ht
    match cs, hcl with
    | [v0, v1], _ =>
      match xs, hxs with
      | [x0, x1], _ =>
        have g0 : DataW.trod enc Try.prog W 0 (fun _ => true) true m 3 (([v0, v1].drop 0).take (Try.prog.cellsOf 3)) = some x0 := hg 0 _ rfl
        have g1 : DataW.trod enc Try.prog W 0 (fun _ => true) true m 3 (([v0, v1].drop 1).take (Try.prog.cellsOf 3)) = some x1 := hg 1 _ rfl
        rw [k3] at g0 g1
        obtain ⟨k0, hk0, _, hw0⟩ := DataW.trod_int Try.underlying3 (show DataW.trod enc Try.prog W 0 (fun _ => true) true m 3 [v0] = some x0 from g0)
        obtain ⟨k1, hk1, _, hw1⟩ := DataW.trod_int Try.underlying3 (show DataW.trod enc Try.prog W 0 (fun _ => true) true m 3 [v1] = some x1 from g1)
        simp only [List.cons.injEq, and_true] at hk0 hk1
        subst hk0; subst hk1
        exact ⟨⟨k0, k1⟩, ⟨hat 0 (by decide), hat 1 (by decide)⟩, f64_wf hw0, f64_wf hw1⟩) hf'
end
end Go.Proofs.Ytpeaajimnggjpaa
