/- How a box lies in memory, at which nobody waits; the contracts of its inner functions. -/
import Derived.Test.YtmolegodfepmnaaMgen
import Derived.Test.YtmolegodfepmnaaMlk
import Derived.Deep.RegionWith
import Derived.RegionTactic
import Derived.Defers
namespace Go.Proofs.Ytmolegodfepmnaa
open Go.ChangeShapes Go.WideShapes Go.ChangeAt Go.RowKit
set_option linter.unusedVariables false

abbrev boxCells (s r : Int) (c : Bool) (v : Value) : Array Value := #[.int .i32 s, .int .u32 0, .int .i64 r, .bool c, v, .slice none 0 0, .slice none 0 0]
/-- the box is block b; what waits in it is L -/
structure BoxAt (w : World) (B b : Nat) (s r : Int) (c : Bool) (v : Value) (L : List Int) : Prop where
  blk : Blk w b 55 (boxCells s r c v)
  nums : InAt w B 3 v L
  le : B ≤ b
/-- beside the box's block and the row in it all is as it was -/
structure Moved (w w' : World) (b : Nat) (v v' : Value) : Prop where
  os : w'.os = w.os
  tape : w'.tape = w.tape
  output : w'.output = w.output
  size : w.heap.size ≤ w'.heap.size
  block : ∀ k, k < w.heap.size → k ≠ b → v.ownBlock ≠ some k → w'.heap[k]? = w.heap[k]?
  own : ∀ k, v'.ownBlock = some k → v.ownBlock = some k ∨ w.heap.size ≤ k
theorem Moved.refl (w : World) (b : Nat) (v : Value) : Moved w w b v v := ⟨rfl, rfl, rfl, Nat.le_refl _, fun _ _ _ _ => rfl, fun _ h => .inl h⟩
theorem Moved.trans {w w1 w2 : World} {b : Nat} {v v1 v2 : Value} (h : Moved w w1 b v v1) (k : Moved w1 w2 b v1 v2) : Moved w w2 b v v2 :=
  ⟨k.os.trans h.os, k.tape.trans h.tape, k.output.trans h.output, Nat.le_trans h.size k.size,
    fun i hi hb hv => (k.block i (Nat.lt_of_lt_of_le hi h.size) hb (fun e => (h.own i e).elim hv (by omega))).trans (h.block i hi hb hv),
    fun i hi => (k.own i hi).elim (fun e => h.own i e) (fun e => .inr (Nat.le_trans h.size e))⟩
theorem Moved.drew {w w' : World} {b : Nat} {v v' : Value} (h : Moved w w' b v v') : Moved w w'.drew b v v' := ⟨h.os, h.tape, h.output, h.size, h.block, h.own⟩
theorem Moved.drewN {w w' : World} {b : Nat} {v v' : Value} (h : Moved w w' b v v') (n : Nat) : Moved w (w'.drewN n) b v v' := ⟨h.os, h.tape, h.output, h.size, h.block, h.own⟩
theorem Moved.alloc {w w' : World} {b : Nat} {v v' : Value} (h : Moved w w' b v v') (o : Obj) : Moved w (w'.alloc o) b v v' :=
  ⟨h.os, h.tape, h.output, Nat.le_trans h.size (by simp), fun k hk hb hv => (Below.heap_alloc w' o k (Nat.lt_of_lt_of_le hk h.size)).trans (h.block k hk hb hv), h.own⟩
theorem Moved.setCell {w w' : World} {b : Nat} {v v' : Value} (h : Moved w w' b v v') (i : Nat) (u : Value) : Moved w (w'.setCell ⟨b, i, none⟩ u) b v v' :=
  ⟨h.os, h.tape, h.output, by simp only [World.setCell, Array.size_modify]; exact h.size, fun k hk hb hv => (Below.heap_setCell w' ⟨b, i, none⟩ u k hb).trans (h.block k hk hb hv), h.own⟩
theorem Moved.row {w w' : World} {b g o n cap : Nat} (h : Moved w w' b (.slice (some ⟨g, o, none⟩) n cap) (.slice (some ⟨g, o, none⟩) n cap)) (j : Nat) (u : Value) {o' n' cap' : Nat} :
    Moved w (w'.setCell ⟨g, j, none⟩ u) b (.slice (some ⟨g, o, none⟩) n cap) (.slice (some ⟨g, o', none⟩) n' cap') :=
  ⟨h.os, h.tape, h.output, by simp only [World.setCell, Array.size_modify]; exact h.size, fun k hk hb hv => (Below.heap_setCell w' ⟨g, j, none⟩ u k (fun e => hv (by rw [e]; rfl))).trans (h.block k hk hb hv), fun k hk => .inl hk⟩
theorem Moved.of_grown {w w' : World} {b : Nat} {v v' : Value} (h : w.grownBy w' v.ownBlock) (ho : ∀ k, v'.ownBlock = some k → v.ownBlock = some k ∨ w.heap.size ≤ k) : Moved w w' b v v' :=
  ⟨h.os, h.tape, h.output, h.size, fun k hk _ hv => h.block k hk (fun e => hv e.symm), ho⟩
theorem Moved.below {w w' : World} {b B : Nat} {v v' : Value} (h : Moved w w' b v v') (hb : B ≤ b) (hv : ∀ k, v.ownBlock = some k → B ≤ k) (hB : B ≤ w.heap.size) : Below B w w' :=
  ⟨h.os, h.tape, h.output, h.size, fun k hk => h.block k (by omega) (by omega) (fun e => by have := hv k e; omega)⟩
theorem BoxAt.under {w w' : World} {B b : Nat} {s r : Int} {c : Bool} {v v' : Value} {L : List Int} (h : BoxAt w B b s r c v L) (hm : Moved w w' b v v') (hB : B ≤ w.heap.size) : Below B w w' :=
  hm.below h.le (fun k hk => (h.nums.lt k hk).1) hB
theorem BoxAt.slice {w : World} {B b : Nat} {s r : Int} {c : Bool} {v : Value} {L : List Int} (h : BoxAt w B b s r c v L) : ∃ A cap, v = .slice A L.length cap := h.nums.slice
/-- a store into one of the box's own cells -/
theorem BoxAt.put {w : World} {B b : Nat} {s r : Int} {c : Bool} {v : Value} {L : List Int} (h : BoxAt w B b s r c v L) (s' r' : Int) (c' : Bool) (i : Nat) (u : Value) (hi : (boxCells s r c v).setIfInBounds i u = boxCells s' r' c' v) :
    BoxAt (w.setCell ⟨b, i, none⟩ u) B b s' r' c' v L :=
  ⟨hi ▸ h.blk.set_ i u, h.nums.apart h.blk (by decide) i u, h.le⟩
theorem BoxAt.drew {w : World} {B b : Nat} {s r : Int} {c : Bool} {v : Value} {L : List Int} (h : BoxAt w B b s r c v L) : BoxAt w.drew B b s r c v L :=
  ⟨h.blk, h.nums.below (Below.refl _ w).drew, h.le⟩
theorem BoxAt.drewN {w : World} {B b : Nat} {s r : Int} {c : Bool} {v : Value} {L : List Int} (h : BoxAt w B b s r c v L) (n : Nat) : BoxAt (w.drewN n) B b s r c v L :=
  ⟨h.blk, h.nums.below (below_drewN (Below.refl _ w) n), h.le⟩
theorem BoxAt.alloc {w : World} {B b : Nat} {s r : Int} {c : Bool} {v : Value} {L : List Int} (h : BoxAt w B b s r c v L) (o : Obj) : BoxAt (w.alloc o) B b s r c v L :=
  ⟨h.blk.alloc o, h.nums.below ((Below.refl _ w).alloc (Nat.le_refl _) o), h.le⟩
theorem BoxAt.facts {w : World} {B b : Nat} {s r : Int} {c : Bool} {v : Value} {L : List Int} (h : BoxAt w B b s r c v L) :
    (w.cell? ⟨b, 0, none⟩ = some (.int .i32 s) ∧ w.cell? ⟨b, 2, none⟩ = some (.int .i64 r) ∧ w.cell? ⟨b, 3, none⟩ = some (.bool c) ∧ w.cell? ⟨b, 4, none⟩ = some v ∧ w.cell? ⟨b, 5, none⟩ = some (.slice none 0 0) ∧ w.cell? ⟨b, 6, none⟩ = some (.slice none 0 0)) ∧
    (w.frozen? ⟨b, 0, none⟩ = false ∧ w.frozen? ⟨b, 3, none⟩ = false ∧ w.frozen? ⟨b, 4, none⟩ = false) :=
  ⟨⟨h.blk.cell 0, h.blk.cell 2, h.blk.cell 3, h.blk.cell 4, h.blk.cell 5, h.blk.cell 6⟩, h.blk.frozen 0, h.blk.frozen 3, h.blk.frozen 4⟩
theorem Try.info3 : (Try.prog.info? 3).map (fun i => (i.zero, i.size, i.bytes)) = some (some (.int .i64 0), 1, 8) := by kernel_rfl

/-! ### where nobody waits -/
theorem next_any (b o : Nat) (w : World) (hc : w.cell? ⟨b, o, none⟩ = some (.slice none 0 0)) : Calls Try.prog 30 #[.pointer (some ⟨b, o, none⟩)] w fun e w' => e = .returned (.pointer none) ∧ w' = w := by
  go_enter Try.func30, Try.ntmps30
  go_wp2_with fail
  go_ret
  exact ⟨rfl, rfl⟩
theorem end_any (b o : Nat) (w : World) (hc : w.cell? ⟨b, o, none⟩ = some (.slice none 0 0)) : Calls Try.prog 21 #[.pointer (some ⟨b, o, none⟩)] w fun e w' => e = .returned (.tuple #[]) ∧ w' = w := by
  go_enter Try.func21, Try.ntmps21
  go_wp2_with (go_at_call 30; refine (next_any b o _ hc).mono ?_; rintro e w' ⟨rfl, rfl⟩)
  go_loopw [2] (fun p wr => p = .pointer none ∧ wr = w') (fun _ _ => 0)
  case atStart => exact ⟨rfl, rfl⟩
  case round =>
    obtain ⟨rfl, rfl⟩ := hrel
    go_wp2_with fail
    go_end0
    exact ⟨rfl, rfl⟩

/-! ### what is in front -/
theorem tf_any {w : World} {B b : Nat} {s r : Int} {c : Bool} {v : Value} {x : Int} {L : List Int} (h : BoxAt w B b s r c v (x :: L)) :
    Calls Try.prog 32 #[.pointer (some ⟨b, 4, none⟩)] w fun e w' => e = .returned (.int .i64 x) ∧ ∃ v', BoxAt w' B b s r c v' L ∧ Moved w w' b v v' := by
  have hin := h.nums
  rcases hin with ⟨_, h0⟩ | ⟨g, o, cap, cur, hv, hB, hg, hn, hs, ht⟩
  · cases h0
  rw [List.length_cons] at hv hn
  subst hv
  have hin : InAt w B 3 (.slice (some ⟨g, o, none⟩) (L.length + 1) cap) (x :: L) := h.nums
  obtain ⟨c0, hc1, -⟩ := hin.tail
  have hgb : g ≠ b := fun e => hin.else_ h.blk (by decide) (by rw [e]; rfl)
  have hbg : b ≠ g := Ne.symm hgb
  -- the world in which the first place is cleared
  have hg1 : Blk (w.setCell ⟨g, o, none⟩ (.int .i64 0)) g 3 (cur.setIfInBounds o (.int .i64 0)) := hg.set_ o _
  have hb1 : Blk (w.setCell ⟨g, o, none⟩ (.int .i64 0)) b 55 (boxCells s r c (.slice (some ⟨g, o, none⟩) (L.length + 1) cap)) := h.blk.set_ne hbg o _
  have hin1 : InAt (w.setCell ⟨g, o, none⟩ (.int .i64 0)) B 3 (.slice (some ⟨g, o, none⟩) (L.length + 1) cap) (0 :: L) := by
    refine .inr ⟨g, o, cap, _, rfl, hB, hg1, by simpa using hn, by simpa using hs, ?_⟩
    have hlt : o < cur.toList.length := by rw [Array.length_toList]; omega
    rw [Array.toList_setIfInBounds]
    rw [List.drop_set]
    simp only [Nat.lt_irrefl, if_false, Nat.sub_self]
    rw [List.drop_eq_getElem_cons hlt] at ht ⊢
    simp only [List.length_cons, List.take_succ_cons, List.set_cons_zero] at ht ⊢
    injection ht with h9 h10
    rw [h10]
    rfl
  obtain ⟨-, -, htl⟩ := hin1.tail
  have hclr : ∀ ty W (hc : (W.cell? ⟨g, o, none⟩).isSome = true) (hf : W.frozen? ⟨g, o, none⟩ = false) (k : Nat), (Builtin.clear_ #[30] ty #[.slice (some ⟨g, o, none⟩) 1 k]).run Try.prog W = .ok (.tuple #[]) (W.setCell ⟨g, o, none⟩ (.int .i64 0)) := fun ty W hc hf k =>
    Lib.run_clear_slice (P := Try.prog) W 30 3 ty (.int .i64 0) Try.underlying30 Try.zeroValue3 rfl rfl g o 1 k (by decide) (fun j hj => by obtain rfl : j = 0 := (by omega); exact hc) (fun j hj => by obtain rfl : j = 0 := (by omega); exact hf)
  have hcl0 := fun ty => hclr ty w (by rw [c0]; rfl) (hg.frozen o)
  have x4 := h.blk.cell 4
  have y4 := hb1.cell 4
  have f4 := hb1.frozen 4
  have HB := Lib.hid h
  have HT := Lib.hid htl
  have HB1 := Lib.hid hb1
  have HG1 := Lib.hid hg1
  clear h hin hin1 htl hb1 hg1 hg hs ht hclr hgb
  obtain ⟨q, hq⟩ : ∃ q, L.length = q := ⟨_, rfl⟩
  rw [hq] at HB HT HB1 x4 y4 hn
  have HQ := Lib.hid hq
  clear hq
  by_cases h1 : cap = 1
  · subst h1
    obtain rfl : q = 0 := by omega
    rw [if_pos rfl] at HT
    go_enter Try.func32, Try.ntmps32
    go_wp2_with fail
    go_ret
    exact ⟨rfl, _, ⟨HB1.out.set_ 4 _, HT.out.apart HB1.out (by decide) 4 _, HB.out.le⟩, by rw [HQ.out]; exact ((Moved.refl w b _).row o _).setCell 4 _⟩
  · rw [if_neg h1] at HT
    obtain ⟨c, rfl⟩ : ∃ c, cap = c + 2 := ⟨cap - 2, by omega⟩
    go_enter Try.func32, Try.ntmps32
    go_wp2_with fail
    go_ret
    exact ⟨rfl, _, ⟨HB1.out.set_ 4 _, HT.out.apart HB1.out (by decide) 4 _, HB.out.le⟩, by rw [HQ.out]; exact ((Moved.refl w b _).row o _).setCell 4 _⟩
end Go.Proofs.Ytmolegodfepmnaa
