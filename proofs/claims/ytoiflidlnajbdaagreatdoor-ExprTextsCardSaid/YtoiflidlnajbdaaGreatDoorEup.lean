/- The head of layer 4's statements (spinetlaw04.up): it holds. -/
import Derived.Test.YtoiflidlnajbdaaGreatDoorEof
namespace Go.Proofs.YtoiflidlnajbdaaGreatDoor
open Go.ChangeShapes Go.WideShapes Go.ChangeAt Go.RowKit
set_option linter.unusedVariables false

theorem eqv_one (w : World) : (binOp .eql 25 (.agg #[.int .i64 2, .int .i64 1]) (.agg #[.int .i64 2, .int .i64 1])).run Tryz.prog w = .ok (.bool true) w := by kernel_rfl
theorem eqv_nil (w : World) : (binOp .eql 27 .nilIface .nilIface).run Tryz.prog w = .ok (.bool true) w := by kernel_rfl
theorem eqv_zero (w : World) : (binOp .eql 27 (.iface 39 (.int .i64 9)) (.iface 39 (.int .i64 9))).run Tryz.prog w = .ok (.bool true) w := by kernel_rfl
theorem up_a1 : parseAns [55, 47, 50, 61, 61, 51] = .toks [(1, 7, 0), (1, 2, 0), (6, 0, 0), (1, 3, 0), (10, 0, 0)] := by kernel_rfl
theorem up_a2 : ans ⟨false, [], 0⟩ [(1, 7, 0), (1, 2, 0), (6, 0, 0), (1, 3, 0), (10, 0, 0)] = .ok 2 1 := by kernel_rfl
theorem up_a3 : parseAns [49, 47, 48] = .toks [(1, 1, 0), (1, 0, 0), (6, 0, 0)] := by kernel_rfl
theorem up_a4 : ans ⟨false, [], 0⟩ [(1, 1, 0), (1, 0, 0), (6, 0, 0)] = .bad 9 := by kernel_rfl
theorem up_a5 : ans ⟨true, [], 0⟩ [(1, 3, 0)] = .ok 1 3 := by kernel_rfl
theorem up_one (w : World) (hL : Laid w) : Calls Tryz.prog 5 #[.string ⟨#[55, 47, 50, 61, 61, 51]⟩, .slice none 0 0] w fun e w' => e = .returned (.tuple #[.agg #[.int .i64 2, .int .i64 1], .nilIface]) ∧ Below w.heap.size w w' := by
  have h := of_any ⟨#[55, 47, 50, 61, 61, 51]⟩ (.slice none 0 0) [] w hL (by decide) (ints_nil w none 0) (by simp) (fun x hx => by cases hx)
  rw [show (⟨#[55, 47, 50, 61, 61, 51]⟩ : ByteArray).data.toList = [55, 47, 50, 61, 61, 51] from rfl, up_a1] at h
  refine h.mono fun e w' hp => ?_
  have hp' : VPost (ans ⟨false, [], 0⟩ [(1, 7, 0), (1, 2, 0), (6, 0, 0), (1, 3, 0), (10, 0, 0)]) w e w' := hp
  rw [up_a2] at hp'
  exact ⟨hp'.2, hp'.1⟩
theorem up_two (w : World) (hL : Laid w) : Calls Tryz.prog 5 #[.string ⟨#[49, 47, 48]⟩, .slice none 0 0] w fun e w' => e = .returned (.tuple #[.agg #[.int .i64 0, .int .i64 0], .iface 39 (.int .i64 9)]) ∧ Below w.heap.size w w' := by
  have h := of_any ⟨#[49, 47, 48]⟩ (.slice none 0 0) [] w hL (by decide) (ints_nil w none 0) (by simp) (fun x hx => by cases hx)
  rw [show (⟨#[49, 47, 48]⟩ : ByteArray).data.toList = [49, 47, 48] from rfl, up_a3] at h
  refine h.mono fun e w' hp => ?_
  have hp' : VPost (ans ⟨false, [], 0⟩ [(1, 1, 0), (1, 0, 0), (6, 0, 0)]) w e w' := hp
  rw [up_a4] at hp'
  exact ⟨hp'.2, hp'.1⟩
theorem up_three (w : World) (g : Nat) (hB : Blk w g 37 #[.int .i64 1, .int .i64 3, .int .i64 0]) : Calls Tryz.prog 8 #[.slice (some ⟨g, 0, none⟩) 1 1, .int .i64 0] w fun e w' => e = .returned (.tuple #[.int .i64 1, .nilIface]) ∧ Below w.heap.size w w' := by
  have h := type_any (.slice (some ⟨g, 0, none⟩) 1 1) [(1, 3, 0)] 0 w ⟨_, _, rfl, by simp, fun i t hi => by
    cases i with
    | zero =>
      simp at hi
      subst hi
      exact ⟨g, 0, rfl, hB.lt, hB.cell 0, hB.cell 1, hB.cell 2⟩
    | succ i => simp at hi⟩ (by simp) (fun t ht => by obtain rfl := List.mem_singleton.1 ht; decide)
  rw [up_a5] at h
  exact h.mono fun e w' hp => ⟨hp.2, hp.1⟩
set_option maxHeartbeats 2000000 in
set_option maxRecDepth 100000 in
theorem up_any (w : World) (hL : Laid w) : Calls Tryz.prog 4 #[] w fun e w' => e = .returned (.bool true) ∧ Below w.heap.size w w' := by
  have f0 := eqv_nil
  have f1 := eqv_one
  have f2 := eqv_zero
  go_enter Tryz.func4, Tryz.ntmps4
  go_wp2_with fail
  refine (up_one _ hL).mono ?_
  rintro e w1 ⟨rfl, hb1⟩
  have HB1 := Lib.hid hb1
  have HL1 := Lib.hid (hL.after (hb1.alloc hb1.size (.cells #[.int .i64 2, .int .i64 1] 25)))
  clear hb1
  go_wp2_with fail
  refine (up_two _ HL1.out).mono ?_
  rintro e w2 ⟨rfl, hb2⟩
  have HB2 := Lib.hid ((HB1.out.alloc HB1.out.size _).trans (hb2.mono (by simp; have := HB1.out.size; omega)))
  obtain ⟨c0, c1⟩ := (show (w2.cell? ⟨w1.heap.size, 0, none⟩ = some (.int .i64 2) ∧ w2.cell? ⟨w1.heap.size, 1, none⟩ = some (.int .i64 1)) from (((Blk.new w1 25 #[.int .i64 2, .int .i64 1]).below hb2 (by simp)).facts2).1)
  have hw12 : w1.heap.size < w2.heap.size := by have := hb2.size; simp at this; omega
  clear hb2
  go_wp2_with fail
  have HB3 := Lib.hid ((HB2.out.alloc HB2.out.size (.cells #[.int .i64 0, .int .i64 0] 25)).alloc (by simp; have := HB2.out.size; omega) (.cells #[.int .i64 1, .int .i64 3, .int .i64 0] 37))
  refine (up_three _ (w2.heap.size + 1) (Blk.new_at _ 37 _ _ (by simp))).mono ?_
  rintro e w3 ⟨rfl, hb3⟩
  have HB4 := Lib.hid (HB3.out.trans (hb3.mono HB3.out.size))
  have hc : ∀ o, w3.cell? ⟨w1.heap.size, o, none⟩ = w2.cell? ⟨w1.heap.size, o, none⟩ := fun o => (hb3.cell (p := ⟨w1.heap.size, o, none⟩) (by simp; omega)).trans ((((Below.refl w2.heap.size w2).alloc (Nat.le_refl _) (.cells #[.int .i64 0, .int .i64 0] 25)).alloc (by simp) (.cells #[.int .i64 1, .int .i64 3, .int .i64 0] 37)).cell (p := ⟨w1.heap.size, o, none⟩) hw12)
  have d0 := (hc 0).trans c0
  have d1 := (hc 1).trans c1
  clear hb3 hc
  go_wp2
  go_ret
  exact ⟨rfl, HB4.out⟩
end Go.Proofs.YtoiflidlnajbdaaGreatDoor
