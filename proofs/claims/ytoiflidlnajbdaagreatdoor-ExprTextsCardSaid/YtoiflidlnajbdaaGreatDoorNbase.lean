/- Contracts of the functions of layer 1 (num) that layer 4 calls, and of the document's own answers for them. -/
import Derived.Test.YtoiflidlnajbdaaGreatDoorZgen
import Derived.Test.YtoiflidlnajbdaaGreatDoorNnum
namespace Go.Proofs.YtoiflidlnajbdaaGreatDoor
open Go.ChangeShapes Go.WideShapes Go.ChangeAt Go.RowKit
set_option linter.unusedVariables false

theorem add_any (a b : Int) (w : World) :
    Calls Tryz.prog 61 #[.int .i64 a, .int .i64 b] w fun e w' => e = .returned (.int .i64 (wrap64 (a + b))) ∧ w = w' := by
  go_enter Tryz.func61, Tryz.ntmps61
  go_wp2
  go_ret
  exact ⟨rfl, rfl⟩

theorem sub_any (a b : Int) (w : World) :
    Calls Tryz.prog 62 #[.int .i64 a, .int .i64 b] w fun e w' => e = .returned (.int .i64 (wrap64 (a - b))) ∧ w = w' := by
  go_enter Tryz.func62, Tryz.ntmps62
  go_wp2
  go_ret
  exact ⟨rfl, rfl⟩

theorem mul_any (a b : Int) (w : World) :
    Calls Tryz.prog 63 #[.int .i64 a, .int .i64 b] w fun e w' => e = .returned (.int .i64 (wrap64 (a * b))) ∧ w = w' := by
  go_enter Tryz.func63, Tryz.ntmps63
  go_wp2
  go_ret
  exact ⟨rfl, rfl⟩

theorem neg_any (a : Int) (w : World) :
    Calls Tryz.prog 35 #[.int .i64 a] w fun e w' => e = .returned (.int .i64 (wrap64 (-a))) ∧ w = w' := by
  go_enter Tryz.func35, Tryz.ntmps35
  go_wp2
  go_ret
  exact ⟨rfl, rfl⟩

theorem div_zero (a : Int) (w : World) :
    Calls Tryz.prog 64 #[.int .i64 a, .int .i64 0] w fun e w' => e = .returned (.tuple #[.int .i64 0, .iface 39 (.int .i64 9)]) ∧ w = w' := by
  go_enter Tryz.func64, Tryz.ntmps64
  go_wp2
  go_ret2
  exact ⟨rfl, rfl⟩

theorem div_any (a b : Int) (w : World) (hb : (b == 0) = false) (hb' : ¬ b = 0) :
    Calls Tryz.prog 64 #[.int .i64 a, .int .i64 b] w fun e w' => e = .returned (.tuple #[.int .i64 (wrap64 (a.tdiv b)), .nilIface]) ∧ w = w' := by
  go_enter Tryz.func64, Tryz.ntmps64
  go_wp2
  go_ret2
  exact ⟨rfl, rfl⟩

theorem mod_zero (a : Int) (w : World) :
    Calls Tryz.prog 65 #[.int .i64 a, .int .i64 0] w fun e w' => e = .returned (.tuple #[.int .i64 0, .iface 39 (.int .i64 9)]) ∧ w = w' := by
  go_enter Tryz.func65, Tryz.ntmps65
  go_wp2
  go_ret2
  exact ⟨rfl, rfl⟩

theorem mod_any (a b : Int) (w : World) (hb : (b == 0) = false) (hb' : ¬ b = 0) :
    Calls Tryz.prog 65 #[.int .i64 a, .int .i64 b] w fun e w' => e = .returned (.tuple #[.int .i64 (a.tmod b), .nilIface]) ∧ w = w' := by
  go_enter Tryz.func65, Tryz.ntmps65
  go_wp2
  go_ret2
  exact ⟨rfl, rfl⟩

theorem radd_any (a b : Int) (w : World) :
    Calls Tryz.prog 67 #[.int .i64 a, .int .i64 b] w fun e w' => e = .returned (.int .i64 (wrap64 (a + b))) ∧ w = w' := by
  go_enter Tryz.func67, Tryz.ntmps67
  go_wp2
  go_ret
  exact ⟨ret_int (ref_add a b), rfl⟩

theorem rsub_any (a b : Int) (w : World) :
    Calls Tryz.prog 46 #[.int .i64 a, .int .i64 b] w fun e w' => e = .returned (.int .i64 (wrap64 (a - b))) ∧ w = w' := by
  go_enter Tryz.func46, Tryz.ntmps46
  go_wp2
  go_ret
  exact ⟨ret_int (ref_sub a b), rfl⟩

theorem rmul_any (a b : Int) (w : World) :
    Calls Tryz.prog 68 #[.int .i64 a, .int .i64 b] w fun e w' => e = .returned (.int .i64 (wrap64 (a * b))) ∧ w = w' := by
  go_enter Tryz.func68, Tryz.ntmps68
  go_wp2
  go_ret
  exact ⟨ret_int (ref_mul a b), rfl⟩

theorem size_neg (a : Int) (w : World) (h : a < 0) (h2 : -9223372036854775808 ≤ a) :
    Calls Tryz.prog 79 #[.int .i64 a] w fun e w' => e = .returned (.int .u64 (-a)) ∧ w = w' := by
  go_enter Tryz.func79, Tryz.ntmps79
  go_wp2
  go_ret
  exact ⟨ret_int (size_neg_is a h h2), rfl⟩

theorem size_pos (a : Int) (w : World) (h : 0 ≤ a) (h2 : a ≤ 9223372036854775807) :
    Calls Tryz.prog 79 #[.int .i64 a] w fun e w' => e = .returned (.int .u64 a) ∧ w = w' := by
  go_enter Tryz.func79, Tryz.ntmps79
  go_wp2
  go_ret
  exact ⟨rfl, rfl⟩

theorem rdiv_pp (a b : Int) (w : World) (n0 : ¬ b = 0) (ha : 0 ≤ a) (ha2 : a ≤ 9223372036854775807) (hb : 0 ≤ b) (hb2 : b ≤ 9223372036854775807) :
    Calls Tryz.prog 69 #[.int .i64 a, .int .i64 b] w fun e w' => e = .returned (.int .i64 (wrap64 (a.tdiv b))) ∧ w = w' := by
  have d1 : decide (a < 0) = false := by simpa using ha
  have d2 : decide (b < 0) = false := by simpa using hb
  go_enter Tryz.func69, Tryz.ntmps69
  go_wp2_with (first | (go_at_call 79; (with_reducible refine (size_pos a _ ha ha2).mono ?_); rintro e w' ⟨rfl, rfl⟩) | (go_at_call 79; (with_reducible refine (size_pos b _ hb hb2).mono ?_); rintro e w' ⟨rfl, rfl⟩))
  go_ret
  exact ⟨ret_int (by rw [div_pp a b ha]), rfl⟩

theorem rdiv_nn (a b : Int) (w : World) (n0 : ¬ b = 0) (ha : a < 0) (ha2 : -9223372036854775808 ≤ a) (hb : b < 0) (hb2 : -9223372036854775808 ≤ b) :
    Calls Tryz.prog 69 #[.int .i64 a, .int .i64 b] w fun e w' => e = .returned (.int .i64 (wrap64 (a.tdiv b))) ∧ w = w' := by
  go_enter Tryz.func69, Tryz.ntmps69
  go_wp2_with (first | (go_at_call 79; (with_reducible refine (size_neg a _ ha ha2).mono ?_); rintro e w' ⟨rfl, rfl⟩) | (go_at_call 79; (with_reducible refine (size_neg b _ hb hb2).mono ?_); rintro e w' ⟨rfl, rfl⟩))
  go_ret
  exact ⟨ret_int (by rw [div_nn a b ha]; exact ref_u _), rfl⟩

theorem rdiv_np (a b : Int) (w : World) (n0 : ¬ b = 0) (ha : a < 0) (ha2 : -9223372036854775808 ≤ a) (hb : 0 ≤ b) (hb2 : b ≤ 9223372036854775807) :
    Calls Tryz.prog 69 #[.int .i64 a, .int .i64 b] w fun e w' => e = .returned (.int .i64 (wrap64 (a.tdiv b))) ∧ w = w' := by
  have d2 : decide (b < 0) = false := by simpa using hb
  go_enter Tryz.func69, Tryz.ntmps69
  go_wp2_with (first | (go_at_call 79; (with_reducible refine (size_neg a _ ha ha2).mono ?_); rintro e w' ⟨rfl, rfl⟩) | (go_at_call 79; (with_reducible refine (size_pos b _ hb hb2).mono ?_); rintro e w' ⟨rfl, rfl⟩))
  go_ret
  exact ⟨ret_int (ref_back _), rfl⟩

theorem rdiv_pn (a b : Int) (w : World) (n0 : ¬ b = 0) (ha : 0 ≤ a) (ha2 : a ≤ 9223372036854775807) (hb : b < 0) (hb2 : -9223372036854775808 ≤ b) :
    Calls Tryz.prog 69 #[.int .i64 a, .int .i64 b] w fun e w' => e = .returned (.int .i64 (wrap64 (a.tdiv b))) ∧ w = w' := by
  have d1 : decide (a < 0) = false := by simpa using ha
  go_enter Tryz.func69, Tryz.ntmps69
  go_wp2_with (first | (go_at_call 79; (with_reducible refine (size_pos a _ ha ha2).mono ?_); rintro e w' ⟨rfl, rfl⟩) | (go_at_call 79; (with_reducible refine (size_neg b _ hb hb2).mono ?_); rintro e w' ⟨rfl, rfl⟩))
  go_ret
  exact ⟨ret_int (ref_back _), rfl⟩

theorem rdiv_any (a b : Int) (w : World) (n0 : ¬ b = 0) (ha : F64 a) (hb : F64 b) :
    Calls Tryz.prog 69 #[.int .i64 a, .int .i64 b] w fun e w' => e = .returned (.int .i64 (wrap64 (a.tdiv b))) ∧ w = w' := by
  by_cases p : 0 ≤ a <;> by_cases q : 0 ≤ b
  · exact rdiv_pp a b w n0 p ha.2 q hb.2
  · exact rdiv_pn a b w n0 p ha.2 (by omega) hb.1
  · exact rdiv_np a b w n0 (by omega) ha.1 q hb.2
  · exact rdiv_nn a b w n0 (by omega) ha.1 (by omega) hb.1

theorem rmod_any (a b : Int) (w : World) (n0 : ¬ b = 0) (ha : F64 a) (hb : F64 b) :
    Calls Tryz.prog 70 #[.int .i64 a, .int .i64 b] w fun e w' => e = .returned (.int .i64 (a.tmod b)) ∧ w = w' := by
  go_enter Tryz.func70, Tryz.ntmps70
  go_wp2_with (first | (go_at_call 69; (with_reducible refine (rdiv_any a b _ n0 ha hb).mono ?_); rintro e w' ⟨rfl, rfl⟩) | (go_at_call 68; refine (rmul_any _ _ _).mono ?_; rintro e w' ⟨rfl, rfl⟩) | (go_at_call 46; refine (rsub_any _ _ _).mono ?_; rintro e w' ⟨rfl, rfl⟩))
  go_ret
  exact ⟨ret_int (ref_mod a b ha), rfl⟩

end Go.Proofs.YtoiflidlnajbdaaGreatDoor
