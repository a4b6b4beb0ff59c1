/- Contracts of the functions of layer 1 (num) that layer 4 calls, and of the document's own answers for them. -/
import Derived.Test.YtoiflidlnajbdaaDoorZgen
import Derived.Test.YtoiflidlnajbdaaDoorNnum
namespace Go.Proofs.YtoiflidlnajbdaaDoor
open Go.ChangeShapes Go.WideShapes Go.ChangeAt Go.RowKit
set_option linter.unusedVariables false

theorem add_any (a b : Int) (w : World) :
    Calls Tryd.prog 43 #[.int .i64 a, .int .i64 b] w fun e w' => e = .returned (.int .i64 (wrap64 (a + b))) ∧ w = w' := by
  go_enter Tryd.func43, Tryd.ntmps43
  go_wp2
  go_ret
  exact ⟨rfl, rfl⟩

theorem sub_any (a b : Int) (w : World) :
    Calls Tryd.prog 44 #[.int .i64 a, .int .i64 b] w fun e w' => e = .returned (.int .i64 (wrap64 (a - b))) ∧ w = w' := by
  go_enter Tryd.func44, Tryd.ntmps44
  go_wp2
  go_ret
  exact ⟨rfl, rfl⟩

theorem mul_any (a b : Int) (w : World) :
    Calls Tryd.prog 45 #[.int .i64 a, .int .i64 b] w fun e w' => e = .returned (.int .i64 (wrap64 (a * b))) ∧ w = w' := by
  go_enter Tryd.func45, Tryd.ntmps45
  go_wp2
  go_ret
  exact ⟨rfl, rfl⟩

theorem neg_any (a : Int) (w : World) :
    Calls Tryd.prog 32 #[.int .i64 a] w fun e w' => e = .returned (.int .i64 (wrap64 (-a))) ∧ w = w' := by
  go_enter Tryd.func32, Tryd.ntmps32
  go_wp2
  go_ret
  exact ⟨rfl, rfl⟩

theorem div_zero (a : Int) (w : World) :
    Calls Tryd.prog 46 #[.int .i64 a, .int .i64 0] w fun e w' => e = .returned (.tuple #[.int .i64 0, .iface 40 (.int .i64 9)]) ∧ w = w' := by
  go_enter Tryd.func46, Tryd.ntmps46
  go_wp2
  go_ret2
  exact ⟨rfl, rfl⟩

theorem div_any (a b : Int) (w : World) (hb : (b == 0) = false) (hb' : ¬ b = 0) :
    Calls Tryd.prog 46 #[.int .i64 a, .int .i64 b] w fun e w' => e = .returned (.tuple #[.int .i64 (wrap64 (a.tdiv b)), .nilIface]) ∧ w = w' := by
  go_enter Tryd.func46, Tryd.ntmps46
  go_wp2
  go_ret2
  exact ⟨rfl, rfl⟩

theorem mod_zero (a : Int) (w : World) :
    Calls Tryd.prog 47 #[.int .i64 a, .int .i64 0] w fun e w' => e = .returned (.tuple #[.int .i64 0, .iface 40 (.int .i64 9)]) ∧ w = w' := by
  go_enter Tryd.func47, Tryd.ntmps47
  go_wp2
  go_ret2
  exact ⟨rfl, rfl⟩

theorem mod_any (a b : Int) (w : World) (hb : (b == 0) = false) (hb' : ¬ b = 0) :
    Calls Tryd.prog 47 #[.int .i64 a, .int .i64 b] w fun e w' => e = .returned (.tuple #[.int .i64 (a.tmod b), .nilIface]) ∧ w = w' := by
  go_enter Tryd.func47, Tryd.ntmps47
  go_wp2
  go_ret2
  exact ⟨rfl, rfl⟩

theorem radd_any (a b : Int) (w : World) :
    Calls Tryd.prog 39 #[.int .i64 a, .int .i64 b] w fun e w' => e = .returned (.int .i64 (wrap64 (a + b))) ∧ w = w' := by
  go_enter Tryd.func39, Tryd.ntmps39
  go_wp2
  go_ret
  exact ⟨ret_int (ref_add a b), rfl⟩

theorem rsub_any (a b : Int) (w : World) :
    Calls Tryd.prog 29 #[.int .i64 a, .int .i64 b] w fun e w' => e = .returned (.int .i64 (wrap64 (a - b))) ∧ w = w' := by
  go_enter Tryd.func29, Tryd.ntmps29
  go_wp2
  go_ret
  exact ⟨ret_int (ref_sub a b), rfl⟩

theorem rmul_any (a b : Int) (w : World) :
    Calls Tryd.prog 40 #[.int .i64 a, .int .i64 b] w fun e w' => e = .returned (.int .i64 (wrap64 (a * b))) ∧ w = w' := by
  go_enter Tryd.func40, Tryd.ntmps40
  go_wp2
  go_ret
  exact ⟨ret_int (ref_mul a b), rfl⟩

theorem size_neg (a : Int) (w : World) (h : a < 0) (h2 : -9223372036854775808 ≤ a) :
    Calls Tryd.prog 56 #[.int .i64 a] w fun e w' => e = .returned (.int .u64 (-a)) ∧ w = w' := by
  go_enter Tryd.func56, Tryd.ntmps56
  go_wp2
  go_ret
  exact ⟨ret_int (size_neg_is a h h2), rfl⟩

theorem size_pos (a : Int) (w : World) (h : 0 ≤ a) (h2 : a ≤ 9223372036854775807) :
    Calls Tryd.prog 56 #[.int .i64 a] w fun e w' => e = .returned (.int .u64 a) ∧ w = w' := by
  go_enter Tryd.func56, Tryd.ntmps56
  go_wp2
  go_ret
  exact ⟨rfl, rfl⟩

theorem rdiv_pp (a b : Int) (w : World) (n0 : ¬ b = 0) (ha : 0 ≤ a) (ha2 : a ≤ 9223372036854775807) (hb : 0 ≤ b) (hb2 : b ≤ 9223372036854775807) :
    Calls Tryd.prog 41 #[.int .i64 a, .int .i64 b] w fun e w' => e = .returned (.int .i64 (wrap64 (a.tdiv b))) ∧ w = w' := by
  have d1 : decide (a < 0) = false := by simpa using ha
  have d2 : decide (b < 0) = false := by simpa using hb
  go_enter Tryd.func41, Tryd.ntmps41
  go_wp2_with (first | (go_at_call 56; (with_reducible refine (size_pos a _ ha ha2).mono ?_); rintro e w' ⟨rfl, rfl⟩) | (go_at_call 56; (with_reducible refine (size_pos b _ hb hb2).mono ?_); rintro e w' ⟨rfl, rfl⟩))
  go_ret
  exact ⟨ret_int (by rw [div_pp a b ha]), rfl⟩

theorem rdiv_nn (a b : Int) (w : World) (n0 : ¬ b = 0) (ha : a < 0) (ha2 : -9223372036854775808 ≤ a) (hb : b < 0) (hb2 : -9223372036854775808 ≤ b) :
    Calls Tryd.prog 41 #[.int .i64 a, .int .i64 b] w fun e w' => e = .returned (.int .i64 (wrap64 (a.tdiv b))) ∧ w = w' := by
  go_enter Tryd.func41, Tryd.ntmps41
  go_wp2_with (first | (go_at_call 56; (with_reducible refine (size_neg a _ ha ha2).mono ?_); rintro e w' ⟨rfl, rfl⟩) | (go_at_call 56; (with_reducible refine (size_neg b _ hb hb2).mono ?_); rintro e w' ⟨rfl, rfl⟩))
  go_ret
  exact ⟨ret_int (by rw [div_nn a b ha]; exact ref_u _), rfl⟩

theorem rdiv_np (a b : Int) (w : World) (n0 : ¬ b = 0) (ha : a < 0) (ha2 : -9223372036854775808 ≤ a) (hb : 0 ≤ b) (hb2 : b ≤ 9223372036854775807) :
    Calls Tryd.prog 41 #[.int .i64 a, .int .i64 b] w fun e w' => e = .returned (.int .i64 (wrap64 (a.tdiv b))) ∧ w = w' := by
  have d2 : decide (b < 0) = false := by simpa using hb
  go_enter Tryd.func41, Tryd.ntmps41
  go_wp2_with (first | (go_at_call 56; (with_reducible refine (size_neg a _ ha ha2).mono ?_); rintro e w' ⟨rfl, rfl⟩) | (go_at_call 56; (with_reducible refine (size_pos b _ hb hb2).mono ?_); rintro e w' ⟨rfl, rfl⟩))
  go_ret
  exact ⟨ret_int (ref_back _), rfl⟩

theorem rdiv_pn (a b : Int) (w : World) (n0 : ¬ b = 0) (ha : 0 ≤ a) (ha2 : a ≤ 9223372036854775807) (hb : b < 0) (hb2 : -9223372036854775808 ≤ b) :
    Calls Tryd.prog 41 #[.int .i64 a, .int .i64 b] w fun e w' => e = .returned (.int .i64 (wrap64 (a.tdiv b))) ∧ w = w' := by
  have d1 : decide (a < 0) = false := by simpa using ha
  go_enter Tryd.func41, Tryd.ntmps41
  go_wp2_with (first | (go_at_call 56; (with_reducible refine (size_pos a _ ha ha2).mono ?_); rintro e w' ⟨rfl, rfl⟩) | (go_at_call 56; (with_reducible refine (size_neg b _ hb hb2).mono ?_); rintro e w' ⟨rfl, rfl⟩))
  go_ret
  exact ⟨ret_int (ref_back _), rfl⟩

theorem rdiv_any (a b : Int) (w : World) (n0 : ¬ b = 0) (ha : F64 a) (hb : F64 b) :
    Calls Tryd.prog 41 #[.int .i64 a, .int .i64 b] w fun e w' => e = .returned (.int .i64 (wrap64 (a.tdiv b))) ∧ w = w' := by
  by_cases p : 0 ≤ a <;> by_cases q : 0 ≤ b
  · exact rdiv_pp a b w n0 p ha.2 q hb.2
  · exact rdiv_pn a b w n0 p ha.2 (by omega) hb.1
  · exact rdiv_np a b w n0 (by omega) ha.1 q hb.2
  · exact rdiv_nn a b w n0 (by omega) ha.1 (by omega) hb.1

theorem rmod_any (a b : Int) (w : World) (n0 : ¬ b = 0) (ha : F64 a) (hb : F64 b) :
    Calls Tryd.prog 42 #[.int .i64 a, .int .i64 b] w fun e w' => e = .returned (.int .i64 (a.tmod b)) ∧ w = w' := by
  go_enter Tryd.func42, Tryd.ntmps42
  go_wp2_with (first | (go_at_call 41; (with_reducible refine (rdiv_any a b _ n0 ha hb).mono ?_); rintro e w' ⟨rfl, rfl⟩) | (go_at_call 40; refine (rmul_any _ _ _).mono ?_; rintro e w' ⟨rfl, rfl⟩) | (go_at_call 29; refine (rsub_any _ _ _).mono ?_; rintro e w' ⟨rfl, rfl⟩))
  go_ret
  exact ⟨ret_int (ref_mod a b ha), rfl⟩

end Go.Proofs.YtoiflidlnajbdaaDoor
