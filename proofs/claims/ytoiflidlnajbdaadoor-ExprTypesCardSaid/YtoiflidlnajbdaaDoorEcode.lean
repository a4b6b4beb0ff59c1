/- The contract of the statements' own question on errors: Code at nil and at a Code. -/
import Derived.Test.YtoiflidlnajbdaaDoorZgen
namespace Go.Proofs.YtoiflidlnajbdaaDoor
open Go.ChangeShapes Go.WideShapes Go.ChangeAt Go.RowKit
set_option linter.unusedVariables false

theorem eql_nil (w : World) : (binOp .eql 25 .nilIface .nilIface).run Tryd.prog w = .ok (.bool true) w := by kernel_rfl
theorem eql_code_nil (p : Value) (w : World) : (binOp .eql 25 (.iface 40 p) .nilIface).run Tryd.prog w = .ok (.bool false) w := by kernel_rfl
theorem code_nil (w : World) : Calls Tryd.prog 10 #[.nilIface] w fun e w' => e = .returned (.int .i64 0) ∧ w = w' := by
  have h := eql_nil
  go_enter Tryd.func10, Tryd.ntmps10
  go_wp2
  go_ret
  exact ⟨rfl, rfl⟩
theorem eql_codes (a b : Int) (w : World) : (binOp .eql 25 (.iface 40 (.int .i64 a)) (.iface 40 (.int .i64 b))).run Tryd.prog w = .ok (.bool (a == b)) w := by kernel_rfl
theorem code_any (c : Nat) (w : World) (h1 : 1 ≤ c) (h2 : c ≤ 13) : Calls Tryd.prog 10 #[.iface 40 (.int .i64 (c : Int))] w fun e w' => e = .returned (.int .i64 (c : Int)) ∧ w = w' := by
  have hn := eql_code_nil (.int .i64 (c : Int))
  go_enter Tryd.func10, Tryd.ntmps10
  go_wp2
  go_loop [3] (fun i => ∃ k : Nat, 1 ≤ k ∧ k ≤ c ∧ i = .int .i64 (k : Int)) (fun i => c - (intOf i).toNat)
  case atStart => exact ⟨1, by omega, by omega, rfl⟩
  case round =>
    obtain ⟨k, hk1, hk2, rfl⟩ := hrel
    have he := eql_codes (c : Int) (k : Int)
    by_cases hk : k = c
    · subst hk
      have hb : ((k : Int) == (k : Int)) = true := by simp
      rw [hb] at he
      go_wp2
      go_ret
      exact ⟨rfl, rfl⟩
    · have hb : ((c : Int) == (k : Int)) = false := by simp; omega
      rw [hb] at he
      go_wp2
      go_round
      case rel => exact ⟨k + 1, by omega, by omega, by go_num⟩
      case measure => simp [intOf]; omega
end Go.Proofs.YtoiflidlnajbdaaDoor
