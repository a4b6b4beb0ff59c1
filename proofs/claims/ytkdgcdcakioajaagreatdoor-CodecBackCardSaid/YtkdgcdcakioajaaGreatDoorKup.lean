/- The head of layer 6's statements (spinetlaw06.up): it holds. -/
import Derived.Test.YtkdgcdcakioajaaGreatDoorKgt
import Derived.Test.YtkdgcdcakioajaaGreatDoorZaskn
namespace Go.Proofs.YtkdgcdcakioajaaGreatDoor
open Go.ChangeShapes Go.WideShapes Go.ChangeAt Go.RowKit
set_option linter.unusedVariables false

theorem byteCells_flat (l : List UInt8) : Lib.byteCells l = l.flatMap (fun x : UInt8 => [Value.int .u8 (x.toNat : Int)]) := by
  unfold Lib.byteCells
  induction l with
  | nil => rfl
  | cons x r ih => rw [List.map_cons, List.flatMap_cons, ih]; rfl
theorem BytesAt.of_own {B : Nat} {w : World} {v : Value} {l : List UInt8} (h : OwnsB B w v l) : BytesAt w v l := by
  unfold OwnsB at h
  rw [byteCells_flat] at h
  have := own_rows (cells := fun x : UInt8 => [Value.int .u8 (x.toNat : Int)]) (val := fun x : UInt8 => x) (w' := w) (P := ByteAt) (fun _ => rfl) h rfl (fun _ _ => rfl) (fun r _ b o hc => hc 0 _ rfl)
  rw [List.map_id'] at this
  exact this
theorem conv_bytes {w : World} {v : Value} {l : List UInt8} (h : BytesAt w v l) : (convert 26 9 v).run Tryz.prog w = .ok (.string ⟨l.toArray⟩) w := by
  obtain ⟨A, cap, rfl, hc, _⟩ := id h
  have := conv_part (Y := A) (cap' := cap) (k := 0) (n := l.length) h (by omega) (by
    cases A with
    | none => exact .inl ⟨rfl, rfl⟩
    | some a => exact .inr ⟨a, rfl, .inr fun b o he => by injection he with he⟩)
  rw [List.drop_zero, List.take_length] at this
  exact this
theorem BytesAt.nil (w : World) : BytesAt w (.slice none 0 0) [] := RowsAt.nil w
def ch1 : Ch := ⟨0, [⟨2, -1, [1], [], []⟩, ⟨1, 0, [], [], []⟩], []⟩
theorem chk1 : chk hasTB ch1 = .ok := by kernel_rfl
theorem few1 : fewB ch1 = true := by kernel_rfl
theorem enc1 : encCh ch1 = [0, 2, 0, 2, 0, 1, 1, 0, 0, 1, 1, 0, 0, 0] := by kernel_rfl
theorem get0 : getA hasTB [] = .spot 0 2 := by kernel_rfl
abbrev twoCells (vi : Value) : Array Value := #[.int .i64 2, .int .i64 (-1), vi, .slice none 0 0, .slice none 0 0, .int .i64 1, .int .i64 0, .slice none 0 0, .slice none 0 0, .slice none 0 0]
abbrev stTwo (vi : Value) : Obj := .cells (twoCells vi) 40
theorem up_list {W : World} {g : Nat} (h : Blk W g 3 #[.int .i64 1]) : ListAt W (.slice (some ⟨g, 0, none⟩) 1 1) [1] :=
  ⟨_, 1, rfl, Nat.le_refl _, fun i x hx => by
    cases i with
    | zero =>
      simp at hx
      subst hx
      exact ⟨g, 0, rfl, h.lt, h.cell 0⟩
    | succ i => simp at hx⟩
theorem up_has {W : World} {g : Nat} {vi : Value} {L : List Int} (h : Blk W g 40 (twoCells vi)) (hL : ListAt W vi L) : ChHas W (.slice (some ⟨g, 0, none⟩) 2 2) (.slice none 0 0) ⟨0, [⟨2, -1, L, [], []⟩, ⟨1, 0, [], [], []⟩], []⟩ := by
  refine ⟨⟨_, 2, rfl, Nat.le_refl _, fun i x hx => ?_⟩, RowsAt.nil W⟩
  match i, hx with
  | 0, hx =>
    simp at hx
    subst hx
    exact ⟨g, 0, rfl, h.lt, vi, _, _, ⟨h.cell 0, h.cell 1, h.cell 2, h.cell 3, h.cell 4⟩, hL, RowsAt.nil W, RowsAt.nil W⟩
  | 1, hx =>
    simp at hx
    subst hx
    exact ⟨g, 0, rfl, h.lt, _, _, _, ⟨h.cell 5, h.cell 6, h.cell 7, h.cell 8, h.cell 9⟩, RowsAt.nil W, RowsAt.nil W, RowsAt.nil W⟩
  | i + 2, hx => simp at hx
theorem up_get (W : World) (hL : Laid W) : Calls Tryz.prog 7 #[.slice none 0 0] W fun e w' => (∃ q, e = .returned (.tuple #[.agg #[.int .i64 0, .slice none 0 0, .slice none 0 0], .iface 51 (.pointer (some ⟨q, 0, none⟩))]) ∧ Blk w' q 53 #[.int .i64 0, .int .i64 2]) ∧ Below W.heap.size W w' := by
  have h := get_any (.slice none 0 0) [] W hL (BytesAt.nil W) (by simp)
  rw [get0] at h
  exact h.mono fun e w' hp => ⟨let ⟨q, h1, _, h3⟩ := hp.2; ⟨q, h1, h3⟩, hp.1⟩
theorem up_put (W : World) (g : Nat) (hL : Laid W) (vi : Value) (h : Blk W g 40 (twoCells vi)) (hi : ListAt W vi [1]) : Calls Tryz.prog 6 #[.agg #[.int .i64 0, .slice (some ⟨g, 0, none⟩) 2 2, .slice none 0 0]] W fun e w' => (∃ v, e = .returned (.tuple #[v, .nilIface]) ∧ OwnsB W.heap.size w' v [0, 2, 0, 2, 0, 1, 1, 0, 0, 1, 1, 0, 0, 0]) ∧ Below W.heap.size W w' := by
  have h := put_any ch1 (.slice (some ⟨g, 0, none⟩) 2 2) (.slice none 0 0) W hL (up_has h hi) few1
  refine h.mono fun e w' hp => ⟨?_, hp.1⟩
  rcases hp.2 with ⟨_, v, h1, h2⟩ | ⟨h1, _⟩
  · rw [enc1] at h2
    exact ⟨v, h1, h2⟩
  · exact absurd chk1 h1
theorem eql_nil2 (w : World) : (binOp .eql 30 .nilIface .nilIface).run Tryz.prog w = .ok (.bool true) w := by kernel_rfl
set_option maxHeartbeats 1000000 in
set_option maxRecDepth 100000 in
theorem up_any (w : World) (hL : Laid w) : Calls Tryz.prog 4 #[] w fun e w' => e = .returned (.bool true) ∧ Below w.heap.size w w' := by
  have f1 := eql_nil2
  have HL := Lib.hid hL
  clear hL
  go_enter Tryz.func4, Tryz.ntmps4
  go_wp2_with fail
  refine (up_get _ HL.out).mono ?_
  rintro e w1 ⟨⟨q, rfl, hq⟩, hb1⟩
  have HB1 := Lib.hid (hb1.alloc hb1.size (.cells #[.int .i64 0, .slice none 0 0, .slice none 0 0] 25))
  have HQ1 := Lib.hid (hq.alloc (.cells #[.int .i64 0, .slice none 0 0, .slice none 0 0] 25))
  clear hb1 hq
  go_wp2_with fail
  have hk1 : Blk (((w1.alloc (.cells #[.int .i64 0, .slice none 0 0, .slice none 0 0] 25)).alloc (.cells #[.int .i64 1] 3)).alloc (stTwo (.slice (some ⟨w1.heap.size + 1, 0, none⟩) 1 1))) (w1.heap.size + 1) 3 #[.int .i64 1] := (Blk.new_at (w1.alloc (.cells #[.int .i64 0, .slice none 0 0, .slice none 0 0] 25)) 3 #[.int .i64 1] (w1.heap.size + 1) (by simp)).alloc _
  have hk2 : Blk (((w1.alloc (.cells #[.int .i64 0, .slice none 0 0, .slice none 0 0] 25)).alloc (.cells #[.int .i64 1] 3)).alloc (stTwo (.slice (some ⟨w1.heap.size + 1, 0, none⟩) 1 1))) (w1.heap.size + 1 + 1) 40 (twoCells (.slice (some ⟨w1.heap.size + 1, 0, none⟩) 1 1)) := Blk.new_at ((w1.alloc (.cells #[.int .i64 0, .slice none 0 0, .slice none 0 0] 25)).alloc (.cells #[.int .i64 1] 3)) 40 _ (w1.heap.size + 1 + 1) (by simp)
  have HB2 := Lib.hid ((HB1.out.alloc HB1.out.size (.cells #[.int .i64 1] 3)).alloc (by have := HB1.out.size; simp at this ⊢; omega) (stTwo (.slice (some ⟨w1.heap.size + 1, 0, none⟩) 1 1)))
  have HQ2 := Lib.hid ((HQ1.out.alloc (.cells #[.int .i64 1] 3)).alloc (stTwo (.slice (some ⟨w1.heap.size + 1, 0, none⟩) 1 1)))
  refine (up_put _ _ (HL.out.after HB2.out) _ hk2 (up_list hk1)).mono ?_
  rintro e w2 ⟨⟨v, rfl, ho⟩, hb2⟩
  obtain ⟨gv, capv, rfl⟩ := slice_of_own (n := 13) ho
  have HB3 := Lib.hid (HB2.out.trans (hb2.mono HB2.out.size))
  have HQ3 := Lib.hid (HQ2.out.below hb2 HQ2.out.lt)
  have HV := Lib.hid (BytesAt.of_own ho)
  clear hb2 ho hk1 hk2
  go_wp2_with fail
  refine (isSpot_yes q 0 2 _ (HL.out.after HB3.out) HQ3.out).mono ?_
  rintro e w3 ⟨rfl, hb3⟩
  have HB4 := Lib.hid (HB3.out.trans (hb3.mono HB3.out.size))
  have hconv := conv_bytes (HV.out.below hb3)
  clear hb3
  go_wp2_with fail
  go_ret
  exact ⟨rfl, HB4.out⟩
end Go.Proofs.YtkdgcdcakioajaaGreatDoor
