/- The head of layer 5's statements (spinetlaw05.up): it holds. -/
import Derived.Test.YtmbmijhfoncncaaGreatDoorCchk
import Derived.Test.YtmbmijhfoncncaaGreatDoorZaskn
namespace Go.Proofs.YtmbmijhfoncncaaGreatDoor
open Go.ChangeShapes Go.WideShapes Go.ChangeAt Go.RowKit
set_option linter.unusedVariables false

def ch0 : Ch := ⟨0, [], []⟩
def ch1 : Ch := ⟨0, [⟨2, -1, [1], [], []⟩, ⟨1, 0, [], [], []⟩], []⟩
def ch2 : Ch := ⟨0, [⟨2, -1, [], [], []⟩, ⟨1, 0, [], [], []⟩], []⟩
theorem chk0 : chk hasTB ch0 = .large := by kernel_rfl
theorem chk1 : chk hasTB ch1 = .ok := by kernel_rfl
theorem chk2 : chk hasTB ch2 = .spot 0 11 := by kernel_rfl
theorem few0 : fewB ch0 = true := by kernel_rfl
theorem few1 : fewB ch1 = true := by kernel_rfl
theorem few2 : fewB ch2 = true := by kernel_rfl
theorem eqe_large (w : World) : (binOp .eql 33 (.iface 39 (.int .i64 3)) (.iface 39 (.int .i64 3))).run Tryz.prog w = .ok (.bool true) w := by kernel_rfl
theorem eqe_nil (w : World) : (binOp .eql 33 .nilIface .nilIface).run Tryz.prog w = .ok (.bool true) w := by kernel_rfl
theorem up_one (w : World) (hL : Laid w) : Calls Tryz.prog 11 #[.agg #[.int .i64 0, .slice none 0 0, .slice none 0 0]] w fun e w' => e = .returned (.iface 39 (.int .i64 3)) ∧ Below w.heap.size w w' := by
  have h := chk_any (.slice none 0 0) (.slice none 0 0) ch0 w hL ⟨RowsAt.nil w, RowsAt.nil w⟩ few0
  rw [chk0] at h
  exact h.mono fun e w' hp => ⟨hp.2, hp.1⟩
abbrev twoCells (vi : Value) : Array Value := #[.int .i64 2, .int .i64 (-1), vi, .slice none 0 0, .slice none 0 0, .int .i64 1, .int .i64 0, .slice none 0 0, .slice none 0 0, .slice none 0 0]
abbrev stTwo (vi : Value) : Obj := .cells (twoCells vi) 38
theorem up_list {W : World} {g : Nat} (h : Blk W g 3 #[.int .i64 1]) : ListAt W (.slice (some ⟨g, 0, none⟩) 1 1) [1] :=
  ⟨_, 1, rfl, Nat.le_refl _, fun i x hx => by
    cases i with
    | zero =>
      simp at hx
      subst hx
      exact ⟨g, 0, rfl, h.lt, h.cell 0⟩
    | succ i => simp at hx⟩
theorem up_has {W : World} {g : Nat} {vi : Value} {L : List Int} (h : Blk W g 38 (twoCells vi)) (hL : ListAt W vi L) : ChHas W (.slice (some ⟨g, 0, none⟩) 2 2) (.slice none 0 0) ⟨0, [⟨2, -1, L, [], []⟩, ⟨1, 0, [], [], []⟩], []⟩ := by
  refine ⟨⟨_, 2, rfl, Nat.le_refl _, fun i x hx => ?_⟩, RowsAt.nil W⟩
  match i, hx with
  | 0, hx =>
    simp at hx
    subst hx
    exact ⟨g, 0, rfl, h.lt, vi, _, _, ⟨h.cell 0, h.cell 1, h.cell 2, h.cell 3, h.cell 4⟩, hL, RowsAt.nil W, RowsAt.nil W⟩
  | 1, hx =>
    simp at hx
    subst hx
    exact ⟨g, 0, rfl, h.lt, _, _, _, ⟨h.cell 5, h.cell 6, h.cell 7, h.cell 8, h.cell 9⟩, RowsAt.nil W, RowsAt.nil W, RowsAt.nil W⟩
  | i + 2, hx => simp at hx
theorem up_two (W : World) (g : Nat) (hL : Laid W) (vi : Value) (h : Blk W g 38 (twoCells vi)) (hi : ListAt W vi [1]) : Calls Tryz.prog 11 #[.agg #[.int .i64 0, .slice (some ⟨g, 0, none⟩) 2 2, .slice none 0 0]] W fun e w' => e = .returned .nilIface ∧ Below W.heap.size W w' := by
  have h := chk_any (.slice (some ⟨g, 0, none⟩) 2 2) (.slice none 0 0) ch1 W hL (up_has h hi) few1
  rw [chk1] at h
  exact h.mono fun e w' hp => ⟨hp.2, hp.1⟩
theorem up_three (W : World) (g : Nat) (hL : Laid W) (h : Blk W g 38 (twoCells (.slice none 0 0))) : Calls Tryz.prog 11 #[.agg #[.int .i64 0, .slice (some ⟨g, 0, none⟩) 2 2, .slice none 0 0]] W fun e w' => (∃ q, e = .returned (.iface 46 (.pointer (some ⟨q, 0, none⟩))) ∧ W.heap.size ≤ q ∧ Blk w' q 48 #[.int .i64 0, .int .i64 11]) ∧ Below W.heap.size W w' := by
  have h := chk_any (.slice (some ⟨g, 0, none⟩) 2 2) (.slice none 0 0) ch2 W hL (up_has h (RowsAt.nil W)) few2
  rw [chk2] at h
  exact h.mono fun e w' hp => ⟨hp.2, hp.1⟩
set_option maxHeartbeats 2000000 in
set_option maxRecDepth 100000 in
theorem up_any (w : World) (hL : Laid w) : Calls Tryz.prog 6 #[] w fun e w' => e = .returned (.bool true) ∧ Below w.heap.size w w' := by
  have f0 := eqe_large
  have f1 := eqe_nil
  have HL := Lib.hid hL
  clear hL
  go_enter Tryz.func6, Tryz.ntmps6
  go_wp2_with fail
  refine (up_one _ HL.out).mono ?_
  rintro e w1 ⟨rfl, hb1⟩
  have HB1 := Lib.hid hb1
  have HL1 := Lib.hid (HL.out.after hb1)
  clear hb1
  go_wp2_with fail
  have HBA := Lib.hid ((HB1.out.alloc HB1.out.size (.cells #[.int .i64 1] 3)).alloc (by simp; have := HB1.out.size; omega) (stTwo (.slice (some ⟨w1.heap.size, 0, none⟩) 1 1)))
  have HB2 := Lib.hid (HBA.out.alloc (by have := HBA.out.size; exact this) (chBox 0 (.slice (some ⟨w1.heap.size + 1, 0, none⟩) 2 2) (.slice none 0 0)))
  have hk1 : Blk (((w1.alloc (.cells #[.int .i64 1] 3)).alloc (stTwo (.slice (some ⟨w1.heap.size, 0, none⟩) 1 1))).alloc (chBox 0 (.slice (some ⟨w1.heap.size + 1, 0, none⟩) 2 2) (.slice none 0 0))) w1.heap.size 3 #[.int .i64 1] := ((Blk.new w1 3 #[.int .i64 1]).alloc _).alloc _
  have hk2 : Blk (((w1.alloc (.cells #[.int .i64 1] 3)).alloc (stTwo (.slice (some ⟨w1.heap.size, 0, none⟩) 1 1))).alloc (chBox 0 (.slice (some ⟨w1.heap.size + 1, 0, none⟩) 2 2) (.slice none 0 0))) (w1.heap.size + 1) 38 (twoCells (.slice (some ⟨w1.heap.size, 0, none⟩) 1 1)) := (Blk.new_at (w1.alloc (.cells #[.int .i64 1] 3)) 38 (twoCells (.slice (some ⟨w1.heap.size, 0, none⟩) 1 1)) (w1.heap.size + 1) (by simp)).alloc _
  have hk3 : Blk (((w1.alloc (.cells #[.int .i64 1] 3)).alloc (stTwo (.slice (some ⟨w1.heap.size, 0, none⟩) 1 1))).alloc (chBox 0 (.slice (some ⟨w1.heap.size + 1, 0, none⟩) 2 2) (.slice none 0 0))) (w1.heap.size + 1 + 1) 25 #[.int .i64 0, .slice (some ⟨w1.heap.size + 1, 0, none⟩) 2 2, .slice none 0 0] := Blk.new_at ((w1.alloc (.cells #[.int .i64 1] 3)).alloc (stTwo (.slice (some ⟨w1.heap.size, 0, none⟩) 1 1))) 25 _ _ (by simp)
  have HK1 := Lib.hid hk1
  have HK2 := Lib.hid hk2
  have HK3 := Lib.hid hk3
  clear hk1 hk2 hk3
  refine (up_two _ _ (HL.out.after HB2.out) _ (HK2.out) (up_list HK1.out)).mono ?_
  rintro e w2 ⟨rfl, hb2⟩
  have HB3 := Lib.hid (HB2.out.trans (hb2.mono HB2.out.size))
  have HM2 := Lib.hid (HK2.out.below hb2 HK2.out.lt)
  have HM3 := Lib.hid (HK3.out.below hb2 HK3.out.lt)
  obtain ⟨x0, x1, x2⟩ := HM3.out.facts3.1
  have hf : w2.frozen? ⟨w1.heap.size + 1, 2, none⟩ = false := HM2.out.frozen 2
  have hc : w2.cell? ⟨w1.heap.size + 1, 2, none⟩ = some (.slice (some ⟨w1.heap.size, 0, none⟩) 1 1) := HM2.out.cell 2
  clear hb2
  go_wp2_with fail
  have HB4 := Lib.hid (HB3.out.setCell (p := ⟨w1.heap.size + 1, 2, none⟩) (by have := HB1.out.size; simp; omega) (.slice none 0 0))
  refine (up_three _ _ (HL.out.after HB4.out) (HM2.out.set_ 2 (.slice none 0 0))).mono ?_
  rintro e w3 ⟨⟨q, rfl, hq, hBq⟩, hb3⟩
  have HB5 := Lib.hid (HB4.out.trans (hb3.mono HB4.out.size))
  have HBQ := Lib.hid hBq
  clear hb3 hq hBq
  go_wp2_with fail
  refine (isSpot_yes q 0 11 _ (HL.out.after HB5.out) HBQ.out).mono ?_
  rintro e w4 ⟨rfl, hb4⟩
  have HB6 := Lib.hid (HB5.out.trans (hb4.mono HB5.out.size))
  clear hb4
  go_wp2_with fail
  go_ret
  exact ⟨rfl, HB6.out⟩
end Go.Proofs.YtmbmijhfoncncaaGreatDoor
