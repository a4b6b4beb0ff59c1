/- What a call of parse's reader may change, and how the reader stands in memory: its block, and the row of tokens that it writes. No function is called in this text. -/
import Derived.Test.YtmbmijhfoncncaaGreatDoorZgen
import Derived.Test.YtmbmijhfoncncaaGreatDoorPpure
namespace Go.Proofs.YtmbmijhfoncncaaGreatDoor
open Go.ChangeShapes Go.WideShapes Go.ChangeAt Go.RowKit
set_option linter.unusedVariables false

/-- from w to w' only block g and the row of v have changed; v' is the row now: the same, or a new one -/
structure Kept (g : Nat) (v : Value) (w w' : World) (v' : Value) : Prop where
  os : w'.os = w.os
  tape : w'.tape = w.tape
  output : w'.output = w.output
  size : w.heap.size ≤ w'.heap.size
  block : ∀ i, i < w.heap.size → i ≠ g → v.ownBlock ≠ some i → w'.heap[i]? = w.heap[i]?
  row : v'.ownBlock = v.ownBlock ∨ ∀ j, v'.ownBlock = some j → w.heap.size ≤ j
theorem Kept.refl (g : Nat) (v : Value) (w : World) : Kept g v w w v := ⟨rfl, rfl, rfl, Nat.le_refl _, fun _ _ _ _ => rfl, .inl rfl⟩
theorem Kept.trans {g : Nat} {v v1 v2 : Value} {w w1 w2 : World} (h : Kept g v w w1 v1) (k : Kept g v1 w1 w2 v2) : Kept g v w w2 v2 := by
  refine ⟨k.os.trans h.os, k.tape.trans h.tape, k.output.trans h.output, Nat.le_trans h.size k.size, fun i hi hg hv => ?_, ?_⟩
  · refine (k.block i (Nat.lt_of_lt_of_le hi h.size) hg ?_).trans (h.block i hi hg hv)
    rcases h.row with hr | hr
    · rw [hr]; exact hv
    · exact fun hj => absurd (hr i hj) (by omega)
  · rcases k.row with kr | kr
    · rw [kr]; exact h.row
    · exact .inr fun j hj => Nat.le_trans h.size (kr j hj)
theorem Kept.of_below {g : Nat} {w w' : World} (v : Value) (h : Below w.heap.size w w') : Kept g v w w' v := ⟨h.os, h.tape, h.output, h.size, fun i hi _ _ => h.block i hi, .inl rfl⟩
theorem Kept.drewN {g : Nat} {v v' : Value} {w w' : World} (h : Kept g v w w' v') (n : Nat) : Kept g v w (w'.drewN n) v' := ⟨h.os, h.tape, h.output, h.size, h.block, h.row⟩
theorem Kept.alloc {g : Nat} {v v' : Value} {w w' : World} (h : Kept g v w w' v') (o : Obj) : Kept g v w (w'.alloc o) v' := h.trans (Kept.of_below v' ((Below.refl _ _).alloc (Nat.le_refl _) o))
theorem Kept.set {g : Nat} {v v' : Value} {w w' : World} (h : Kept g v w w' v') (i : Nat) (u : Value) : Kept g v w (w'.setCell ⟨g, i, none⟩ u) v' :=
  ⟨h.os, h.tape, h.output, by simpa using h.size, fun j hj hg hv => (Below.heap_setCell w' ⟨g, i, none⟩ u j hg).trans (h.block j hj hg hv), h.row⟩
/-- behind an append -/
theorem Kept.grown {g : Nat} {v v1 v2 : Value} {w w1 w2 : World} (h : Kept g v w w1 v1) (hg : w1.grownBy w2 v1.ownBlock) (hr : v2.ownBlock = v1.ownBlock ∨ v2.ownBlock = some w1.heap.size) : Kept g v w w2 v2 := by
  refine h.trans ⟨hg.os, hg.tape, hg.output, hg.size, fun i hi _ hv => hg.block i hi (fun hc => hv hc.symm), ?_⟩
  rcases hr with hr | hr
  · exact .inl hr
  · refine .inr fun j hj => ?_
    rw [hr] at hj; injection hj with hj; omega
theorem Kept.below {g e s n B : Nat} {xs : List Value} {v v' : Value} {w w' : World} (h : Kept g v w w' v') (ho : w.ownsRow B e s v n xs) (hB : g < B) (hg : g ≤ w.heap.size) : Below g w w' :=
  ⟨h.os, h.tape, h.output, h.size, fun i hi => h.block i (by omega) (by omega) (fun hc => by have := (ho.lt i hc).1; omega)⟩
/-- a world made a little more first -/
theorem Kept.after {g : Nat} {v v' : Value} {w w1 w' : World} (hb : Below w.heap.size w w1) (h : Kept g v w1 w' v') : Kept g v w w' v' := (Kept.of_below v hb).trans h

/-- these tokens lie under block g -/
def ToksU (g : Nat) (w : World) (v : Value) (ts : List Tk) : Prop :=
  ∃ (A : Option Addr) (cap : Nat), v = .slice A ts.length cap ∧ ts.length ≤ cap ∧ ∀ (i : Nat) (t : Tk), ts[i]? = some t → ∃ b o : Nat, A = some ⟨b, o, none⟩ ∧ b < g ∧
    w.cell? ⟨b, o + i * 3, none⟩ = some (.int .i64 t.1) ∧ w.cell? ⟨b, o + i * 3 + 1, none⟩ = some (.int .i64 t.2.1) ∧ w.cell? ⟨b, o + i * 3 + 2, none⟩ = some (.int .i64 t.2.2)
theorem ToksU.of {w : World} {v : Value} {ts : List Tk} (h : ToksAt w v ts) : ToksU w.heap.size w v ts := h
theorem ToksU.below {g : Nat} {w w' : World} {v : Value} {ts : List Tk} (h : ToksU g w v ts) (hb : Below g w w') : ToksU g w' v ts := by
  obtain ⟨A, cap, hv, hc, hi⟩ := h
  refine ⟨A, cap, hv, hc, fun i t ht => ?_⟩
  obtain ⟨b, o, hA, hlt, h0, h1, h2⟩ := hi i t ht
  exact ⟨b, o, hA, hlt, (hb.cell (p := ⟨b, _, none⟩) hlt).trans h0, (hb.cell (p := ⟨b, _, none⟩) hlt).trans h1, (hb.cell (p := ⟨b, _, none⟩) hlt).trans h2⟩

/-- how the reader stands: k tokens are read, o is written, in the row v -/
structure RSt (g : Nat) (vin : Value) (w : World) (k : Nat) (v : Value) (o : List Tk) : Prop where
  blk : Blk w g 97 #[vin, .int .i64 k, v]
  own : w.ownsRow (g + 1) 101 3 v o.length (tksCells o)
theorem RSt.kept {g k : Nat} {vin v : Value} {w w' : World} {o : List Tk} (h : RSt g vin w k v o) (hb : Below w.heap.size w w') : RSt g vin w' k v o := ⟨h.blk.below hb h.blk.lt, own_below h.own hb⟩
theorem RSt.drewN {g k : Nat} {vin v : Value} {w : World} {o : List Tk} (h : RSt g vin w k v o) (n : Nat) : RSt g vin (w.drewN n) k v o := ⟨h.blk.drewN n, h.own⟩
theorem own_set {w : World} {base : Nat} {e : TypeId} {size : Nat} {v : Value} {n : Nat} {xs : List Value} {g : Nat} (h : w.ownsRow base e size v n xs) (i : Nat) (u : Value) (hg : g < base) : (w.setCell ⟨g, i, none⟩ u).ownsRow base e size v n xs := by
  refine ⟨h.1, ?_⟩
  rcases h.2 with h2 | ⟨g', cap, cur, hv, hb, hc, hrest⟩
  · exact .inl h2
  · exact .inr ⟨g', cap, cur, hv, hb, (Below.heap_setCell w ⟨g, i, none⟩ u g' (by simp; omega)).trans hc, hrest⟩
theorem RSt.at_ {g k : Nat} {vin v : Value} {w : World} {o : List Tk} (h : RSt g vin w k v o) (k' : Nat) : RSt g vin (w.setCell ⟨g, 1, none⟩ (.int .i64 k')) k' v o :=
  ⟨h.blk.set_ 1 _, own_set h.own _ _ (Nat.lt_succ_self g)⟩
theorem RSt.below {g k : Nat} {vin v : Value} {w : World} {o : List Tk} (h : RSt g vin w k v o) {v' : Value} {w' : World} (hk : Kept g v w w' v') : Below g w w' := hk.below h.own (Nat.lt_succ_self g) (Nat.le_of_lt h.blk.lt)
theorem RSt.lt {g k : Nat} {vin v : Value} {w : World} {o : List Tk} (h : RSt g vin w k v o) : g < w.heap.size := h.blk.lt
/-- what a function of the reader's tells -/
def RPost (g : Nat) (vin : Value) (R : Res) (v : Value) (w : World) (e : Ending) (w' : World) : Prop :=
  match R with
  | .ok k o => e = .returned (.bool true) ∧ ∃ v', Kept g v w w' v' ∧ RSt g vin w' k v' o
  | .bad k => e = .returned (.bool false) ∧ ∃ v' o, Kept g v w w' v' ∧ RSt g vin w' k v' o
/-- 'prog''s function F reads what binds at least as strongly as lv, with n steps -/
def Reads (ts : List Tk) (g : Nat) (vin : Value) (n lv F : Nat) : Prop :=
  ∀ (k : Nat) (out : List Tk) (R : Res) (v : Value) (w : World), rd ts n lv k out = some R → k ≤ ts.length → out.length ≤ k → ToksU g w vin ts → RSt g vin w k v out →
    Calls Tryz.prog F #[.pointer (some ⟨g, 0, none⟩)] w (RPost g vin R v w)
end Go.Proofs.YtmbmijhfoncncaaGreatDoor
