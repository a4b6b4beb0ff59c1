/- The contract of expr.Eval: a postfix's value, or what is amiss first. -/
import Derived.Test.YtoiflidlnajbdaaDoorEtype
import Derived.Test.YtoiflidlnajbdaaDoorEwor
namespace Go.Proofs.YtoiflidlnajbdaaDoor
open Go.ChangeShapes Go.WideShapes Go.ChangeAt Go.RowKit
set_option linter.unusedVariables false

def VPost (a : Vl) (w : World) (e : Ending) (w' : World) : Prop :=
  Below w.heap.size w w' ∧ match a with
    | .ok k n => e = .returned (.tuple #[.agg #[.int .i64 k, .int .i64 n], .nilIface])
    | .bad c => e = .returned (.tuple #[.agg #[.int .i64 0, .int .i64 0], .iface 40 (.int .i64 c)])
theorem results_pair {fn : Func} {r s : Tmp} (hr : fn.results = #[.cell r 34, .tmp s]) (tmps : Array Value) (w : World) (g : Nat) (a b : Value)
    (hp : tmps.getD r undef = .pointer (some ⟨g, 0, none⟩)) (hB : Blk w g 34 #[a, b]) :
    (results fn tmps).run Tryd.prog w = .ok (.tuple #[.agg #[a, b], tmps.getD s undef]) w := by
  have c0 := hB.cell 0
  have c1 := hB.cell 1
  simp at c0 c1 hp
  simp [results, hr, hp, go_sem, c0, c1]
theorem Blk.facts2 {w : World} {g : Nat} {t : TypeId} {x y : Value} (h : Blk w g t #[x, y]) :
    (w.cell? ⟨g, 0, none⟩ = some x ∧ w.cell? ⟨g, 1, none⟩ = some y) ∧ (w.frozen? ⟨g, 0, none⟩ = false ∧ w.frozen? ⟨g, 1, none⟩ = false) := ⟨⟨h.cell 0, h.cell 1⟩, h.frozen 0, h.frozen 1⟩
theorem Blk.set2 {w : World} {g : Nat} {t : TypeId} {x y : Value} (h : Blk w g t #[x, y]) (a b : Value) : Blk ((w.setCell ⟨g, 0, none⟩ a).setCell ⟨g, 1, none⟩ b) g t #[a, b] := (h.set_ 0 a).set_ 1 b
theorem Blk.grown2 {w w' : World} {g : Nat} {t : TypeId} {cs : Array Value} {row : Option Nat} (h : Blk w g t cs) (hg : w.grownBy w' row) (hne : some g ≠ row) : Blk w' g t cs := (hg.block g h.lt hne).trans h
theorem NumsAt.drewN {w : World} {v : Value} {xs : List Int} (h : NumsAt w v xs) (n : Nat) : NumsAt (w.drewN n) v xs := h
/-- how the two rows stand, S being the stack; g0 the result's block -/
structure ESt (B : Nat) (w : World) (v u : Value) (S : List Vl) : Prop where
  kinds : w.ownsRow (B + 1) 3 1 v S.length (intVals (kindsOf S))
  nums : w.ownsRow (B + 1) 2 1 u S.length (intVals (numsOf S))
  apart : ∀ j, v.ownBlock = some j → u.ownBlock ≠ some j
  res : Blk w B 34 #[.int .i64 0, .int .i64 0]
theorem nums_below {w w' : World} {ve : Value} {env : List Int} {B : Nat} (h : NumsAt w ve env) (hb : Below B w w') (hB : w.heap.size ≤ B) : NumsAt w' ve env := h.below (hb.mono hB)
/-- behind step -/
theorem ESt.stepped {B : Nat} {wo w1 : World} {v u : Value} {S : List Vl} (h : ESt B wo v u S) {g : Nat} (hg : wo.grownBy w1 v.ownBlock) (hat : v.ownBlock = some g ∨ wo.heap.size ≤ g) :
    w1.ownsRow (B + 1) 2 1 u S.length (intVals (numsOf S)) ∧ u.ownBlock ≠ some g ∧ Blk w1 B 34 #[.int .i64 0, .int .i64 0] := by
  refine ⟨h.nums.kept hg ?_, ?_, h.res.grown2 hg (fun hc => by have := (h.kinds.lt B hc.symm).1; omega)⟩
  · cases hu : u.ownBlock with
    | none => exact .inl rfl
    | some j => exact .inr fun hc => h.apart j hc.symm hu
  · rcases hat with h1 | h1
    · exact h.apart g h1
    · exact fun hc => by have := (h.nums.lt g hc).2; omega
/-- behind the numbers' append -/
theorem ESt.pushed {B g cap : Nat} {w1 w3 : World} {u' : Value} {S' : List Vl} {k n : Int} {q : Nat} {row : Option Nat} (hk : w1.ownsRow (B + 1) 3 1 (.slice (some ⟨g, 0, none⟩) (q + 1) cap) (q + 1) (intVals (kindsOf S' ++ [k]))) (hr : Blk w1 B 34 #[.int .i64 0, .int .i64 0])
    (hgr : w1.grownBy w3 row) (hrow : ∀ j, row = some j → B + 1 ≤ j ∧ j ≠ g) (hn : w3.ownsRow (B + 1) 2 1 u' (q + 1) (intVals (numsOf S') ++ [.int .i64 n])) (hq : S'.length = q) (hu : ∀ j, u'.ownBlock = some j → j ≠ g) :
    ESt B w3 (.slice (some ⟨g, 0, none⟩) (q + 1) cap) u' (.ok k n :: S') := by
  refine ⟨?_, ?_, fun j hj hc => hu j hc (by simpa [Value.ownBlock] using hj.symm), hr.grown2 hgr (fun hc => by have := (hrow B hc.symm).1; omega)⟩
  · have := hk.kept hgr (.inr fun hc => by have := (hrow g (by rw [← hc]; rfl)).2; exact this rfl)
    rw [kindsOf_cons, List.length_cons, hq]
    exact this
  · rw [numsOf_cons, List.length_cons, intVals_app, hq]; exact hn
theorem nums_end {w : World} {B : Nat} {g q c cap : Nat} {ys ks : List Int} (h : w.ownsRow B 2 1 (.slice (some ⟨g, 0, none⟩) (q + c) cap) (q + c) (intVals (ys ++ ks))) (hy : ys.length = q) (j : Nat) (x : Int) (hx : ks[j]? = some x) : w.cell? ⟨g, q + j, none⟩ = some (.int .i64 x) := by
  refine own_cell h (q + j) _ ?_
  rw [intVals_app, List.getElem?_append_right (by rw [intVals_len]; omega), intVals_len, hy, Nat.add_sub_cancel_left]
  simp [intVals, hx]
theorem ESt.below {B : Nat} {w w' : World} {v u : Value} {S : List Vl} (h : ESt B w v u S) (hb : Below w.heap.size w w') : ESt B w' v u S := ⟨own_below h.kinds hb, own_below h.nums hb, h.apart, h.res.below hb h.res.lt⟩
theorem pushed_app {B g cap q : Nat} {w2 w3 : World} {o : Obj} {u u' : Value} {S' : List Vl} {k n : Int} (hk : w2.ownsRow (B + 1) 3 1 (.slice (some ⟨g, 0, none⟩) (q + 1) cap) (q + 1) (intVals (kindsOf S' ++ [k]))) (hr : Blk w2 B 34 #[.int .i64 0, .int .i64 0])
    (hgr : (w2.alloc o).grownBy w3 u.ownBlock) (hub : ∀ j, u.ownBlock = some j → B + 1 ≤ j) (hug : u.ownBlock ≠ some g) (hn : w3.ownsRow (B + 1) 2 1 u' (q + 1) (intVals (numsOf S') ++ [.int .i64 n])) (hq : S'.length = q) (hu : u'.ownBlock = u.ownBlock ∨ u'.ownBlock = some (w2.alloc o).heap.size) :
    ESt B w3 (.slice (some ⟨g, 0, none⟩) (q + 1) cap) u' (.ok k n :: S') := by
  have hgl := (hk.lt g rfl).2
  refine ESt.pushed (hk.alloc o) (hr.alloc o) hgr (fun j hj => ⟨hub j hj, fun hc => hug (by rw [hj, hc])⟩) hn hq (fun j hj hc => ?_)
  subst hc
  rcases hu with h | h
  · exact hug (by rw [← h, hj])
  · rw [hj] at h; injection h with h; simp at h; omega
end Go.Proofs.YtoiflidlnajbdaaDoor
