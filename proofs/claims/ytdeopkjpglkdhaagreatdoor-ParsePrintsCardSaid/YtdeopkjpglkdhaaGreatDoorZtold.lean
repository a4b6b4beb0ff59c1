/- The contracts of the statements' own questions on errors: Code at nil and at a Code, Told. -/
import Derived.Test.YtdeopkjpglkdhaaGreatDoorZask
namespace Go.Proofs.YtdeopkjpglkdhaaGreatDoor
open Go.ChangeShapes Go.WideShapes Go.ChangeAt Go.RowKit
set_option linter.unusedVariables false

theorem eql_nil (w : World) : (binOp .eql 25 .nilIface .nilIface).run Tryz.prog w = .ok (.bool true) w := by kernel_rfl
theorem eql_code_nil (p : Value) (w : World) : (binOp .eql 25 (.iface 36 p) .nilIface).run Tryz.prog w = .ok (.bool false) w := by kernel_rfl
theorem code_nil (w : World) : Calls Tryz.prog 20 #[.nilIface] w fun e w' => e = .returned (.int .i64 0) ∧ w = w' := by
  have h := eql_nil
  go_enter Tryz.func20, Tryz.ntmps20
  go_wp2
  go_ret
  exact ⟨rfl, rfl⟩
theorem eql_codes (a b : Int) (w : World) : (binOp .eql 25 (.iface 36 (.int .i64 a)) (.iface 36 (.int .i64 b))).run Tryz.prog w = .ok (.bool (a == b)) w := by kernel_rfl
theorem code_any (c : Nat) (w : World) (h1 : 1 ≤ c) (h2 : c ≤ 13) : Calls Tryz.prog 20 #[.iface 36 (.int .i64 (c : Int))] w fun e w' => e = .returned (.int .i64 (c : Int)) ∧ w = w' := by
  have hn := eql_code_nil (.int .i64 (c : Int))
  go_enter Tryz.func20, Tryz.ntmps20
  go_wp2
  go_loop [3] (fun i => ∃ k : Nat, 1 ≤ k ∧ k ≤ c ∧ i = .int .i64 (k : Int)) (fun i => c - (intOf i).toNat)
  case atStart => exact ⟨1, by omega, by omega, rfl⟩
  case round =>
    obtain ⟨k, hk1, hk2, rfl⟩ := hrel
    have he := eql_codes (c : Int) (k : Int)
    by_cases hk : k = c
    · subst hk
      have hb : ((k : Int) == (k : Int)) = true := by simp
      rw [hb] at he
      go_wp2
      go_ret
      exact ⟨rfl, rfl⟩
    · have hb : ((c : Int) == (k : Int)) = false := by simp; omega
      rw [hb] at he
      go_wp2
      go_round
      case rel => exact ⟨k + 1, by omega, by omega, by go_num⟩
      case measure => simp [intOf]; omega
theorem told_nil (w : World) : Calls Tryz.prog 8 #[.nilIface, .int .i64 0, .int .i64 (-1)] w fun e w' => e = .returned (.bool true) ∧ w = w' := by
  go_enter Tryz.func8, Tryz.ntmps8
  go_wp2_with fail
  refine (code_nil w).mono ?_
  rintro e w' ⟨rfl, rfl⟩
  go_wp2
  go_ret
  exact ⟨rfl, rfl⟩
theorem told_code (c : Nat) (x : Int) (w : World) (h1 : 1 ≤ c) (h2 : c ≤ 13) (hx : x = (c : Int)) : Calls Tryz.prog 8 #[.iface 36 (.int .i64 x), .int .i64 x, .int .i64 (-1)] w fun e w' => e = .returned (.bool true) ∧ w = w' := by
  subst hx
  go_enter Tryz.func8, Tryz.ntmps8
  go_wp2_with fail
  refine (code_any c w h1 h2).mono ?_
  rintro e w' ⟨rfl, rfl⟩
  go_wp2
  go_ret
  exact ⟨rfl, rfl⟩
theorem told_spot (g : Nat) (k : Int) (w : World) (hL : Laid w) (hk : 0 ≤ k) (hB : Blk w g 47 #[.int .i64 k, .int .i64 2]) :
    Calls Tryz.prog 8 #[.iface 44 (.pointer (some ⟨g, 0, none⟩)), .int .i64 2, .int .i64 k] w fun e w' => e = .returned (.bool true) ∧ Below w.heap.size w w' := by
  have HL := Lib.hid hL
  have HB := Lib.hid hB
  have hd : decide (k < 0) = false := by simpa using hk
  clear hL hB
  go_enter Tryz.func8, Tryz.ntmps8
  go_wp2_with fail
  refine (isSpot_yes g k w HL.out HB.out).mono ?_
  rintro e w' ⟨rfl, hb⟩
  have HBB := Lib.hid hb
  clear hb
  go_wp2
  go_ret
  exact ⟨rfl, HBB.out⟩
end Go.Proofs.YtdeopkjpglkdhaaGreatDoor
