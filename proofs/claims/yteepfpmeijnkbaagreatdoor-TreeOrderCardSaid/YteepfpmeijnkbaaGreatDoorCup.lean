/- The head of layer 5's statements (spinetlaw05.up): it holds. -/
import Derived.Test.YteepfpmeijnkbaaGreatDoorCchk
namespace Go.Proofs.YteepfpmeijnkbaaGreatDoor
open Go.ChangeShapes Go.WideShapes Go.ChangeAt Go.RowKit
set_option linter.unusedVariables false

def ch0 : Ch := ⟨0, [], []⟩
def ch1 : Ch := ⟨0, [⟨2, -1, [1], [], []⟩, ⟨1, 0, [], [], []⟩], []⟩
def ch2 : Ch := ⟨0, [⟨2, -1, [], [], []⟩, ⟨1, 0, [], [], []⟩], []⟩
theorem chk0 : chk hasTB ch0 = .large := by kernel_rfl
theorem chk1 : chk hasTB ch1 = .ok := by kernel_rfl
theorem chk2 : chk hasTB ch2 = .spot 0 11 := by kernel_rfl
theorem few0 : fewB ch0 = true := by kernel_rfl
theorem few1 : fewB ch1 = true := by kernel_rfl
theorem few2 : fewB ch2 = true := by kernel_rfl
theorem eqe_large (w : World) : (binOp .eql 30 (.iface 49 (.int .i64 3)) (.iface 49 (.int .i64 3))).run Tryz.prog w = .ok (.bool true) w := by kernel_rfl
theorem eqe_nil (w : World) : (binOp .eql 30 .nilIface .nilIface).run Tryz.prog w = .ok (.bool true) w := by kernel_rfl
theorem up_one (w : World) (hL : Laid w) : Calls Tryz.prog 19 #[.agg #[.int .i64 0, .slice none 0 0, .slice none 0 0]] w fun e w' => e = .returned (.iface 49 (.int .i64 3)) ∧ Below w.heap.size w w' := by
  have h := chk_any (.slice none 0 0) (.slice none 0 0) ch0 w hL ⟨RowsAt.nil w, RowsAt.nil w⟩ few0
  rw [chk0] at h
  exact h.mono fun e w' hp => ⟨hp.2, hp.1⟩
abbrev twoCells (vi : Value) : Array Value := #[.int .i64 2, .int .i64 (-1), vi, .slice none 0 0, .slice none 0 0, .int .i64 1, .int .i64 0, .slice none 0 0, .slice none 0 0, .slice none 0 0]
abbrev stTwo (vi : Value) : Obj := .cells (twoCells vi) 45
theorem up_list {W : World} {g : Nat} (h : Blk W g 3 #[.int .i64 1]) : ListAt W (.slice (some ⟨g, 0, none⟩) 1 1) [1] :=
  ⟨_, 1, rfl, Nat.le_refl _, fun i x hx => by
    cases i with
    | zero =>
      simp at hx
      subst hx
      exact ⟨g, 0, rfl, h.lt, h.cell 0⟩
    | succ i => simp at hx⟩
theorem up_has {W : World} {g : Nat} {vi : Value} {L : List Int} (h : Blk W g 45 (twoCells vi)) (hL : ListAt W vi L) : ChHas W (.slice (some ⟨g, 0, none⟩) 2 2) (.slice none 0 0) ⟨0, [⟨2, -1, L, [], []⟩, ⟨1, 0, [], [], []⟩], []⟩ := by
  refine ⟨⟨_, 2, rfl, Nat.le_refl _, fun i x hx => ?_⟩, RowsAt.nil W⟩
  match i, hx with
  | 0, hx =>
    simp at hx
    subst hx
    exact ⟨g, 0, rfl, h.lt, vi, _, _, ⟨h.cell 0, h.cell 1, h.cell 2, h.cell 3, h.cell 4⟩, hL, RowsAt.nil W, RowsAt.nil W⟩
  | 1, hx =>
    simp at hx
    subst hx
    exact ⟨g, 0, rfl, h.lt, _, _, _, ⟨h.cell 5, h.cell 6, h.cell 7, h.cell 8, h.cell 9⟩, RowsAt.nil W, RowsAt.nil W, RowsAt.nil W⟩
  | i + 2, hx => simp at hx
theorem up_two (W : World) (g : Nat) (hL : Laid W) (vi : Value) (h : Blk W g 45 (twoCells vi)) (hi : ListAt W vi [1]) : Calls Tryz.prog 19 #[.agg #[.int .i64 0, .slice (some ⟨g, 0, none⟩) 2 2, .slice none 0 0]] W fun e w' => e = .returned .nilIface ∧ Below W.heap.size W w' := by
  have h := chk_any (.slice (some ⟨g, 0, none⟩) 2 2) (.slice none 0 0) ch1 W hL (up_has h hi) few1
  rw [chk1] at h
  exact h.mono fun e w' hp => ⟨hp.2, hp.1⟩
theorem up_three (W : World) (g : Nat) (hL : Laid W) (h : Blk W g 45 (twoCells (.slice none 0 0))) : Calls Tryz.prog 19 #[.agg #[.int .i64 0, .slice (some ⟨g, 0, none⟩) 2 2, .slice none 0 0]] W fun e w' => (∃ q, e = .returned (.iface 63 (.pointer (some ⟨q, 0, none⟩))) ∧ W.heap.size ≤ q ∧ Blk w' q 65 #[.int .i64 0, .int .i64 11]) ∧ Below W.heap.size W w' := by
  have h := chk_any (.slice (some ⟨g, 0, none⟩) 2 2) (.slice none 0 0) ch2 W hL (up_has h (RowsAt.nil W)) few2
  rw [chk2] at h
  exact h.mono fun e w' hp => ⟨hp.2, hp.1⟩
end Go.Proofs.YteepfpmeijnkbaaGreatDoor
