/- What is read lies in new memory: a world with some of its blocks hidden; rows that a call owns, as rows of data; what one more element changes. No function is called in this text. -/
import Derived.Test.YtkdgcdcakioajaaGreatDoorKget
namespace Go.Proofs.YtkdgcdcakioajaaGreatDoor
open Go.ChangeShapes Go.WideShapes Go.ChangeAt Go.RowKit
set_option linter.unusedVariables false

/-- a world with the blocks alone that K tells -/
def keep (K : Nat → Bool) (w : World) : World := { w with heap := w.heap.mapIdx fun i o => if K i = true then o else .cells #[] 0 (0, 0) }
theorem keep_size (K : Nat → Bool) (w : World) : (keep K w).heap.size = w.heap.size := by simp [keep]
theorem keep_heap {K : Nat → Bool} {i : Nat} (w : World) (h : K i = true) : (keep K w).heap[i]? = w.heap[i]? := by
  simp only [keep, Array.getElem?_mapIdx, h, if_true]
  cases w.heap[i]? <;> rfl
theorem keep_cell {K : Nat → Bool} (w : World) {a : Addr} (h : K a.block = true) : (keep K w).cell? a = w.cell? a := World.cell?_of_block (keep_heap w h)
theorem keep_hidden {K : Nat → Bool} (w : World) {a : Addr} (h : K a.block = false) : (keep K w).cell? a = none := by
  have e : (keep K w).heap[a.block]? = (w.heap[a.block]?).map (fun _ => .cells #[] 0 (0, 0)) := by
    simp only [keep, Array.getElem?_mapIdx, h]
    cases w.heap[a.block]? <;> rfl
  unfold World.cell?
  rw [e]
  cases w.heap[a.block]? with
  | none => rfl
  | some o => simp
/-- what is to be read in one is to be read in the other -/
def Sub (w w' : World) : Prop := w.heap.size ≤ w'.heap.size ∧ ∀ a v, w.cell? a = some v → w'.cell? a = some v
theorem Sub.trans {w w1 w2 : World} (h : Sub w w1) (k : Sub w1 w2) : Sub w w2 := ⟨Nat.le_trans h.1 k.1, fun a v hv => k.2 a v (h.2 a v hv)⟩
theorem sub_keep (K : Nat → Bool) (w : World) : Sub (keep K w) w := by
  refine ⟨by rw [keep_size]; exact Nat.le_refl _, fun a v h => ?_⟩
  cases hk : K a.block with
  | true => rwa [keep_cell w hk] at h
  | false => rw [keep_hidden w hk] at h; cases h
theorem keep_sub {K K' : Nat → Bool} {w w' : World} (hs : w.heap.size ≤ w'.heap.size) (h : ∀ i, i < w.heap.size → K i = true → K' i = true ∧ w'.heap[i]? = w.heap[i]?) : Sub (keep K w) (keep K' w') := by
  refine ⟨by rw [keep_size, keep_size]; exact hs, fun a v hv => ?_⟩
  have hlt : a.block < w.heap.size := by
    have := World.block_lt_of_cell? _ a hv
    rwa [keep_size] at this
  cases hk : K a.block with
  | true =>
    obtain ⟨h1, h2⟩ := h _ hlt hk
    rw [keep_cell w hk] at hv
    rw [keep_cell w' h1, World.cell?_of_block h2]
    exact hv
  | false => rw [keep_hidden w hk] at hv; cases hv
theorem RowsAt.sub {α : Type} {n : Nat} {P : World → Nat → Nat → α → Prop} {w w' : World} (hP : ∀ b o x, P w b o x → P w' b o x) (hs : w.heap.size ≤ w'.heap.size) {v : Value} {xs : List α} (h : RowsAt n P w v xs) : RowsAt n P w' v xs := by
  obtain ⟨A, cap, hv, hc, hi⟩ := h
  refine ⟨A, cap, hv, hc, fun i t ht => ?_⟩
  obtain ⟨b, o, hA, hlt, h0⟩ := hi i t ht
  exact ⟨b, o, hA, Nat.lt_of_lt_of_le hlt hs, hP _ _ _ h0⟩
theorem ListAt.sub {w w' : World} {v : Value} {xs : List Int} (h : ListAt w v xs) (hs : Sub w w') : ListAt w' v xs := RowsAt.sub (fun _ _ _ h => hs.2 _ _ h) hs.1 h
theorem ActsAt.sub {w w' : World} {v : Value} {xs : List Ac} (h : ActsAt w v xs) (hs : Sub w w') : ActsAt w' v xs :=
  RowsAt.sub (fun _ _ _ h => ⟨hs.2 _ _ h.1, hs.2 _ _ h.2.1, hs.2 _ _ h.2.2.1, hs.2 _ _ h.2.2.2⟩) hs.1 h
theorem StHas.sub {w w' : World} {vi ve vx : Value} {s : St} (h : StHas w vi ve vx s) (hs : Sub w w') : StHas w' vi ve vx s := ⟨h.1.sub hs, h.2.1.sub hs, h.2.2.sub hs⟩
theorem TrHas.sub {w w' : World} {vt va : Value} {t : Tr} (h : TrHas w vt va t) (hs : Sub w w') : TrHas w' vt va t := ⟨h.1.sub hs, h.2.sub hs⟩
theorem StsAt.sub {w w' : World} {v : Value} {xs : List St} (h : StsAt w v xs) (hs : Sub w w') : StsAt w' v xs :=
  RowsAt.sub (fun _ _ _ ⟨vi, ve, vx, h, k⟩ => ⟨vi, ve, vx, ⟨hs.2 _ _ h.1, hs.2 _ _ h.2.1, hs.2 _ _ h.2.2.1, hs.2 _ _ h.2.2.2.1, hs.2 _ _ h.2.2.2.2⟩, k.sub hs⟩) hs.1 h
theorem TrsAt.sub {w w' : World} {v : Value} {xs : List Tr} (h : TrsAt w v xs) (hs : Sub w w') : TrsAt w' v xs :=
  RowsAt.sub (fun _ _ _ ⟨vt, va, h, k⟩ => ⟨vt, va, ⟨hs.2 _ _ h.1, hs.2 _ _ h.2.1, hs.2 _ _ h.2.2.1, hs.2 _ _ h.2.2.2.1, hs.2 _ _ h.2.2.2.2.1, hs.2 _ _ h.2.2.2.2.2⟩, k.sub hs⟩) hs.1 h
/-- the blocks from n on -/
def from_ (n : Nat) : Nat → Bool := fun i => decide (n ≤ i)
/-- .. but for a row's own -/
def fromBut (n : Nat) (v : Value) : Nat → Bool := fun i => decide (n ≤ i) && decide (v.ownBlock ≠ some i)
theorem from_true {n i : Nat} : from_ n i = true ↔ n ≤ i := by simp [from_]
theorem fromBut_true {n i : Nat} {v : Value} : fromBut n v i = true ↔ n ≤ i ∧ v.ownBlock ≠ some i := by simp [fromBut]

/-- a row that the call owns, as a row of data -/
theorem flat_at {ρ : Type} {cells : ρ → List Value} {n : Nat} (hn : ∀ r, (cells r).length = n) : ∀ (xs : List ρ) (i : Nat) (x : ρ) (j : Nat) (u : Value), xs[i]? = some x → (cells x)[j]? = some u → (xs.flatMap cells)[i * n + j]? = some u
  | [], i, x, j, u, h, _ => by simp at h
  | y :: ys, 0, x, j, u, h, hu => by
    simp at h
    subst h
    have hj := (List.getElem?_eq_some_iff.1 hu).1
    rw [List.flatMap_cons, Nat.zero_mul, Nat.zero_add, List.getElem?_append_left hj]
    exact hu
  | y :: ys, i + 1, x, j, u, h, hu => by
    simp at h
    rw [List.flatMap_cons, List.getElem?_append_right (by rw [hn, Nat.succ_mul]; omega), hn, show (i + 1) * n + j - n = i * n + j by rw [Nat.succ_mul]; omega]
    exact flat_at hn ys i x j u h hu
theorem own_rows {ρ α : Type} {cells : ρ → List Value} {val : ρ → α} {n B : Nat} {e : TypeId} {w w' : World} {v : Value} {xs : List ρ} {P : World → Nat → Nat → α → Prop} (hn : ∀ r, (cells r).length = n)
    (h : w.ownsRow B e n v xs.length (xs.flatMap cells)) (hw : w'.heap.size = w.heap.size) (hh : ∀ i, B ≤ i → w'.heap[i]? = w.heap[i]?)
    (hP : ∀ r ∈ xs, ∀ b o, (∀ j u, (cells r)[j]? = some u → w'.cell? ⟨b, o + j, none⟩ = some u) → P w' b o (val r)) : RowsAt n P w' v (xs.map val) := by
  rcases h.2 with ⟨rfl, hz⟩ | ⟨g, cap, cur, rfl, hB, hg, hc, _, hs, ht⟩
  · obtain rfl : xs = [] := List.eq_nil_of_length_eq_zero hz
    exact RowsAt.nil _
  · have hB' : Blk w' g e cur := (hh g hB).trans hg
    refine ⟨_, cap, by rw [List.length_map], by rw [List.length_map]; exact hc, fun i x hx => ?_⟩
    rw [List.getElem?_map] at hx
    obtain ⟨r, hr, rfl⟩ := Option.map_eq_some_iff.1 hx
    refine ⟨g, 0, rfl, hB'.lt, hP r (List.mem_of_getElem? hr) _ _ fun j u hu => ?_⟩
    have hj := (List.getElem?_eq_some_iff.1 hu).1
    rw [hn] at hj
    have hi := (List.getElem?_eq_some_iff.1 hr).1
    have hlt : i * n + j < xs.length * n := by
      have := Nat.mul_le_mul_right n (show i + 1 ≤ xs.length from hi)
      rw [Nat.succ_mul] at this
      omega
    have := flat_at hn xs i r j u hr hu
    rw [← ht, List.getElem?_take, if_pos hlt] at this
    rw [hB'.cell, Nat.zero_add, ← this]
    simp

/-- what a reader's call tells: what was told lies in new memory, and of what was there the reader's block alone has changed -/
def GPost {ρ α : Type} (agg : ρ → Value) (val : ρ → α) (N : World → ρ → Prop) (g : Nat) (vin : Value) (R : α × RS) (w : World) (e : Ending) (w' : World) : Prop :=
  ∃ r : ρ, e = .returned (agg r) ∧ val r = R.1 ∧ N (keep (from_ w.heap.size) w') r ∧ w.grownBy w' (some g) ∧ RdAt g vin w' R.2
/-- 'prog''s function F reads as p does -/
def GReads {ρ α : Type} (agg : ρ → Value) (val : ρ → α) (N : World → ρ → Prop) (l : List UInt8) (g : Nat) (vin : Value) (W0 : World) (p : RS → α × RS) (F : Nat) (args : Array Value) : Prop :=
  ∀ (s : RS) (w : World), Below W0.heap.size W0 w → RdAt g vin w s → s.1 ≤ l.length → Calls Tryz.prog F args w (GPost agg val N g vin (p s) w)
/-- some elements are read, and how it goes on -/
structure EachRel {ρ α : Type} (cells : ρ → List Value) (val : ρ → α) (N : World → ρ → Prop) (e sz : Nat) (l : List UInt8) (p : RS → α × RS) (g : Nat) (vin : Value) (w : World) (n : Nat) (R : List α × RS) (k : Nat) (v : Value) (wr : World) (rows : List ρ) (s : RS) : Prop where
  len : rows.length = k
  val : (rows.map val ++ (eachP p (n - k) s).1, (eachP p (n - k) s).2) = R
  own : wr.ownsRow w.heap.size e sz v k (rows.flatMap cells)
  nest : ∀ r ∈ rows, N (keep (fromBut w.heap.size v) wr) r
  grown : w.grownBy wr (some g)
  rd : RdAt g vin wr s
  le : s.1 ≤ l.length
theorem EachRel.start {ρ α : Type} {cells : ρ → List Value} {val : ρ → α} {N : World → ρ → Prop} {e sz : Nat} {l : List UInt8} {p : RS → α × RS} {g : Nat} {vin : Value} {w : World} {n : Nat} {s : RS} (hr : RdAt g vin w s) (hs : s.1 ≤ l.length) :
    EachRel cells val N e sz l p g vin w n (eachP p n s) 0 (.slice none 0 0) w [] s :=
  ⟨rfl, rfl, World.ownsRow_nil _ _ _ _, fun r h => by simp at h, grown_refl _ _, hr, hs⟩
/-- one more -/
theorem EachRel.next {ρ α : Type} {cells : ρ → List Value} {val : ρ → α} {N : World → ρ → Prop} {e sz : Nat} {l : List UInt8} {p : RS → α × RS} {g : Nat} {vin : Value} {w : World} {n : Nat} {R : List α × RS} {k : Nat} {v : Value} {wr : World} {rows : List ρ} {s : RS}
    (h : EachRel cells val N e sz l p g vin w n R k v wr rows s) (hk : k < n) (hN : ∀ w w' r, Sub w w' → N w r → N w' r) (hg : g < w.heap.size) (hle : s.1 ≤ l.length → (p s).2.1 ≤ l.length)
    {w1 w2 : World} {r : ρ} {v' : Value} {o : Obj} (hv : val r = (p s).1) (hn : N (keep (from_ wr.heap.size) w1) r) (hg1 : wr.grownBy w1 (some g)) (hr1 : RdAt g vin w1 (p s).2)
    (ho : w2.ownsRow w.heap.size e sz v' (k + 1) (rows.flatMap cells ++ cells r)) (hg2 : (w1.alloc o).grownBy w2 v.ownBlock) (hrow : v'.ownBlock = v.ownBlock ∨ v'.ownBlock = some (w1.alloc o).heap.size) :
    EachRel cells val N e sz l p g vin w n R (k + 1) v' w2 (rows ++ [r]) (p s).2 := by
  have hvlt : ∀ j, v.ownBlock = some j → w.heap.size ≤ j ∧ j < wr.heap.size := h.own.lt
  have hgv : some g ≠ v.ownBlock := fun hc => by have := (hvlt g hc.symm).1; omega
  have hs1 := hg1.size
  have hs0 := h.grown.size
  have hsa : (w1.alloc o).heap.size = w1.heap.size + 1 := by simp
  have hs2 := hg2.size
  have hkeep : ∀ i, i < w1.heap.size → v.ownBlock ≠ some i → w2.heap[i]? = w1.heap[i]? := fun i hi hne =>
    (hg2.block i (by omega) (fun hc => hne hc.symm)).trans (Below.heap_alloc w1 o i hi)
  have hnew : ∀ i, i < w1.heap.size → v.ownBlock ≠ some i → v'.ownBlock ≠ some i := by
    intro i hi hne hc
    rcases hrow with hr | hr
    · rw [hr] at hc; exact hne hc
    · rw [hr] at hc; injection hc with hc; omega
  refine ⟨by simp [h.len], ?_, by rw [List.flatMap_append]; simpa using ho, fun x hx => ?_, ?_, ?_, hle h.le⟩
  · rw [← h.val]
    obtain ⟨m, hm⟩ : ∃ m, n - k = m + 1 := ⟨n - k - 1, by omega⟩
    rw [hm, show n - (k + 1) = m by omega]
    simp [eachP, hv]
  · rcases List.mem_append.1 hx with hx | hx
    · refine hN _ _ _ (keep_sub (by omega) fun i hi hi2 => ?_) (h.nest x hx)
      obtain ⟨q1, q2⟩ := fromBut_true.1 hi2
      refine ⟨fromBut_true.2 ⟨q1, hnew i (by omega) q2⟩, (hkeep i (by omega) q2).trans (hg1.block i hi ?_)⟩
      intro hc
      injection hc with hc
      omega
    · obtain rfl := List.mem_singleton.1 hx
      refine hN _ _ _ (keep_sub (by omega) fun i hi hi2 => ?_) hn
      have q1 := from_true.1 hi2
      have q2 : v.ownBlock ≠ some i := fun hc => by have := (hvlt i hc).2; omega
      exact ⟨fromBut_true.2 ⟨by omega, hnew i hi q2⟩, hkeep i hi q2⟩
  · refine ⟨hg2.os.trans (hg1.os.trans h.grown.os), hg2.tape.trans (hg1.tape.trans h.grown.tape), hg2.output.trans (hg1.output.trans h.grown.output), by omega, fun i hi hne => ?_⟩
    have q2 : v.ownBlock ≠ some i := fun hc => by have := (hvlt i hc).1; omega
    exact (hkeep i (by omega) q2).trans ((hg1.block i (by omega) hne).trans (h.grown.block i hi hne))
  · unfold RdAt at hr1 ⊢
    refine (hkeep g hr1.lt (fun hc => hgv hc.symm)).trans hr1
/-- what is read at the end -/
theorem EachRel.done {ρ α : Type} {cells : ρ → List Value} {val : ρ → α} {N : World → ρ → Prop} {e sz : Nat} {l : List UInt8} {p : RS → α × RS} {g : Nat} {vin : Value} {w : World} {n : Nat} {R : List α × RS} {v : Value} {wr : World} {rows : List ρ} {s : RS}
    (h : EachRel cells val N e sz l p g vin w n R n v wr rows s) {P : World → Nat → Nat → α → Prop} (hn : ∀ r, (cells r).length = sz) (hN : ∀ w w' r, Sub w w' → N w r → N w' r)
    (hP : ∀ (W : World) r b o, N W r → (∀ j u, (cells r)[j]? = some u → W.cell? ⟨b, o + j, none⟩ = some u) → P W b o (val r)) :
    GPost (fun x : Value × List α => x.1) (fun x => x.2) (fun W x => RowsAt sz P W x.1 x.2) g vin R w (.returned v) wr := by
  have hv := h.val
  rw [Nat.sub_self] at hv
  have h1 : rows.map val = R.1 := by rw [← hv]; simp [eachP]
  have h2 : s = R.2 := by rw [← hv]; rfl
  refine ⟨(v, R.1), rfl, rfl, ?_, h.grown, h2 ▸ h.rd⟩
  have ho := h.own
  rw [← h.len] at ho
  have := own_rows (w' := keep (from_ w.heap.size) wr) (P := P) (val := val) hn ho (keep_size _ _) (fun i hi => keep_heap wr (from_true.2 hi)) (fun r hr b o hc => hP _ r b o (hN _ _ _ (keep_sub (Nat.le_refl _) fun i _ hi => ⟨from_true.2 (fromBut_true.1 hi).1, rfl⟩) (h.nest r hr)) hc)
  rw [h1] at this
  exact this
end Go.Proofs.YtkdgcdcakioajaaGreatDoor
