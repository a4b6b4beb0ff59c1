/- The head of layer 11's statements (spinetlaw11.up): it holds. -/
import Derived.Test.YtafcbgapllkghaaGreatDoorArw
namespace Go.Proofs.YtafcbgapllkghaaGreatDoor
open Go.ChangeShapes Go.WideShapes Go.ChangeAt Go.RowKit
set_option linter.unusedVariables false

def upActs : List Ac := [⟨1, 0, 0, ⟨#[97, 43, 49]⟩⟩, ⟨5, 0, 0, ⟨#[49, 47, 48]⟩⟩, ⟨2, 5, 0, ⟨#[]⟩⟩]
theorem upD : doL upActs ⟨[7], [], []⟩ = ⟨[8], [], [1001]⟩ := by kernel_rfl
abbrev upCells : Array Value := #[.int .i64 1, .int .i64 0, .int .i64 0, .string ⟨#[97, 43, 49]⟩, .int .i64 5, .int .i64 0, .int .i64 0, .string ⟨#[49, 47, 48]⟩, .int .i64 2, .int .i64 5, .int .i64 0, .string ⟨#[]⟩]
theorem up_acts {W : World} {g : Nat} (h : Blk W g 35 upCells) : ActsAt W (.slice (some ⟨g, 0, none⟩) 3 3) upActs := by
  refine ⟨_, 3, rfl, Nat.le_refl _, fun i x hx => ?_⟩
  match i, hx with
  | 0, hx =>
    simp [upActs] at hx
    subst hx
    exact ⟨g, 0, rfl, h.lt, h.cell 0, h.cell 1, h.cell 2, h.cell 3⟩
  | 1, hx =>
    simp [upActs] at hx
    subst hx
    exact ⟨g, 0, rfl, h.lt, h.cell 4, h.cell 5, h.cell 6, h.cell 7⟩
  | 2, hx =>
    simp [upActs] at hx
    subst hx
    exact ⟨g, 0, rfl, h.lt, h.cell 8, h.cell 9, h.cell 10, h.cell 11⟩
  | i + 3, hx => simp [upActs] at hx
theorem one_num {W : World} {g : Nat} {x : Int} (h : Blk W g 2 #[.int .i64 x]) : NumsAt W (.slice (some ⟨g, 0, none⟩) 1 1) [x] := by
  refine ⟨_, 1, rfl, Nat.le_refl _, fun i y hy => ?_⟩
  match i, hy with
  | 0, hy =>
    simp at hy
    subst hy
    exact ⟨g, 0, rfl, h.lt, h.cell 0⟩
  | i + 1, hy => simp at hy
set_option maxHeartbeats 4000000 in
set_option maxRecDepth 100000 in
theorem upA_any (w : World) (hL : Laid w) : Calls Tryz.prog 4 #[] w fun e w' => e = .returned (.bool true) ∧ Below w.heap.size w w' := by
  have hk0 := (Blk.new w 35 upCells).alloc (.cells #[.int .i64 7] 2)
  have hk1 := Blk.new_at (w.alloc (.cells upCells 35)) 2 #[.int .i64 7] (w.heap.size + 1) (by simp)
  have HB0 := Lib.hid (((Below.refl w.heap.size w).alloc (Nat.le_refl _) (.cells upCells 35)).alloc (by simp) (.cells #[.int .i64 7] 2))
  have hd := do_all _ _ upActs [7] _ (hL.after HB0.out) (up_acts hk0) (by decide) (fun a ha => by
    simp only [upActs, List.mem_cons, List.mem_nil_iff, or_false] at ha
    rcases ha with rfl | rfl | rfl <;> decide) (one_num hk1) (by decide) (fun x hx => by
    rw [List.mem_singleton.1 hx]
    exact ⟨by decide, by decide⟩)
  rw [upD] at hd
  have HD := Lib.hid hd
  clear hk0 hk1 hL hd
  go_enter Tryz.func4, Tryz.ntmps4
  go_wp2_with fail
  refine HD.out.mono ?_
  rintro e w1 ⟨hb1, ve, vo, vi, rfl, he, ho, hi⟩
  have HB1 := Lib.hid (HB0.out.trans (hb1.mono HB0.out.size))
  obtain ⟨b, cap, cur, rfl, _, _, _, c0, _⟩ := he.place (k := 0) (by decide)
  obtain ⟨oA, ocap, rfl⟩ := own_slice ho
  obtain ⟨g3, cap3, rfl⟩ := slice_of_own (n := 0) hi
  have c1 := own_cell (n := 1) hi 0 (.int .i64 1001) rfl
  simp only [List.getElem_cons_zero] at c0
  clear he ho hi hb1
  go_wp2_with fail
  go_ret
  exact ⟨rfl, HB1.out⟩
end Go.Proofs.YtafcbgapllkghaaGreatDoor
