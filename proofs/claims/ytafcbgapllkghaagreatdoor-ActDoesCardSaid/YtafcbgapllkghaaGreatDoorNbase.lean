/- Plain arithmetic on numbers that go round at 64 bits: sums, products, quotients and rests. -/
import Derived.RowKit
import Derived.IntWalk
import Derived.Test.YtafcbgapllkghaaGreatDoorZgen
namespace Go.Proofs.YtafcbgapllkghaaGreatDoor
open Go.RowKit

theorem wrap_turn (x k : Int) : wrap64 (x + k * 18446744073709551616) = wrap64 x := by unfold wrap64; omega

theorem wrap_turns (x : Int) : ∃ k : Int, wrap64 x = x + k * 18446744073709551616 :=
  ⟨-((x + 9223372036854775808) / 18446744073709551616), by unfold wrap64; omega⟩

theorem wrap_same {x y : Int} (k : Int) (h : x = y + k * 18446744073709551616) : wrap64 x = wrap64 y := by
  rw [h, wrap_turn]

theorem wrap_add_left (x y : Int) : wrap64 (wrap64 x + y) = wrap64 (x + y) := by unfold wrap64; omega
theorem wrap_add_right (x y : Int) : wrap64 (x + wrap64 y) = wrap64 (x + y) := by unfold wrap64; omega
theorem wrap_sub_left (x y : Int) : wrap64 (wrap64 x - y) = wrap64 (x - y) := by unfold wrap64; omega
theorem wrap_sub_right (x y : Int) : wrap64 (x - wrap64 y) = wrap64 (x - y) := by unfold wrap64; omega
theorem wrap_mul_left (x y : Int) : wrap64 (wrap64 x * y) = wrap64 (x * y) := by
  obtain ⟨k, hk⟩ := wrap_turns x
  refine wrap_same (k * y) ?_
  rw [hk, Int.add_mul, Int.mul_assoc, Int.mul_assoc, Int.mul_comm 18446744073709551616 y]
theorem wrap_mul_right (x y : Int) : wrap64 (x * wrap64 y) = wrap64 (x * y) := by
  rw [Int.mul_comm, wrap_mul_left, Int.mul_comm]

theorem ring_spread (a b c : Int) : wrap64 (a * wrap64 (b + c)) = wrap64 (wrap64 (a * b) + wrap64 (a * c)) := by
  rw [wrap_mul_right, wrap_add_left, wrap_add_right, Int.mul_add]
theorem ring_add (a b c : Int) : wrap64 (wrap64 (a + b) + c) = wrap64 (a + wrap64 (b + c)) := by
  rw [wrap_add_left, wrap_add_right, Int.add_assoc]
theorem ring_mul (a b c : Int) : wrap64 (wrap64 (a * b) * c) = wrap64 (a * wrap64 (b * c)) := by
  rw [wrap_mul_left, wrap_mul_right, Int.mul_assoc]

/-- a number of 64 bits with a sign -/
def F64 (a : Int) : Prop := -9223372036854775808 ≤ a ∧ a ≤ 9223372036854775807
theorem wrap_fits {a : Int} (h : F64 a) : wrap64 a = a := by unfold F64 at h; unfold wrap64; omega
theorem fits_of_wf {a : Int} (h : (Lit.int .i64 a).wf = true) : F64 a := by
  simp only [Lit.wf, Bool.and_eq_true, decide_eq_true_eq] at h
  exact ⟨h.1, h.2⟩

theorem back_sub (a b : Int) (h : F64 a) : wrap64 (wrap64 (a + b) - b) = a := by
  rw [wrap_sub_left, show a + b - b = a by omega, wrap_fits h]
theorem back_neg (a : Int) : wrap64 (a + wrap64 (-a)) = 0 := by
  rw [wrap_add_right, show a + -a = 0 by omega]; unfold wrap64; omega
theorem back_mul (a b : Int) : wrap64 (a * b) = wrap64 (b * a) := by rw [Int.mul_comm]
theorem back_parts (a b : Int) (h : F64 a) : wrap64 (wrap64 (wrap64 (a.tdiv b) * b) + a.tmod b) = a := by
  rw [wrap_add_left, ← wrap_add_left, wrap_mul_left, wrap_add_left, Int.tdiv_mul_add_tmod, wrap_fits h]

theorem rest_pos (a b : Int) (h : 0 < a.tmod b) : 0 < a := by
  refine Int.not_le.mp fun hn => ?_
  have h2 : 0 ≤ (-a).tmod b := Int.tmod_nonneg b (by omega)
  rw [Int.neg_tmod] at h2
  omega
theorem rest_neg (a b : Int) (h : a.tmod b < 0) : a < 0 := by
  refine Int.not_le.mp fun hn => ?_
  have := Int.tmod_nonneg b hn
  omega
theorem rest_lt (a b : Int) (hb : b ≠ 0) : (0 < b → a.tmod b < b ∧ -b < a.tmod b) ∧ (b < 0 → b < a.tmod b ∧ a.tmod b < -b) := by
  have h := Int.natAbs_tmod a b
  have h2 : a.natAbs % b.natAbs < b.natAbs := Nat.mod_lt _ (by omega)
  rw [← h] at h2
  omega

theorem u64_is (x : Int) : IntKind.u64.wrap x = x % 18446744073709551616 := by
  simp [IntKind.wrap, IntKind.bits, IntKind.signed]
theorem ref_add (a b : Int) : wrap64 (IntKind.u64.wrap (IntKind.u64.wrap a + IntKind.u64.wrap b)) = wrap64 (a + b) := by
  simp only [u64_is]; unfold wrap64; omega
theorem ref_sub (a b : Int) : wrap64 (IntKind.u64.wrap (IntKind.u64.wrap a - IntKind.u64.wrap b)) = wrap64 (a - b) := by
  simp only [u64_is]; unfold wrap64; omega
theorem ref_u (q : Int) : wrap64 (IntKind.u64.wrap q) = wrap64 q := by
  simp only [u64_is]; unfold wrap64; omega
theorem ref_back (t : Int) : wrap64 (IntKind.u64.wrap (-IntKind.u64.wrap (-t))) = wrap64 t := by
  simp only [u64_is]; unfold wrap64; omega
theorem ref_mul (a b : Int) : wrap64 (IntKind.u64.wrap (IntKind.u64.wrap a * IntKind.u64.wrap b)) = wrap64 (a * b) := by
  simp only [u64_is]
  rw [← Int.mul_emod]; unfold wrap64; omega
theorem size_neg_is (a : Int) (h : a < 0) (h2 : -9223372036854775808 ≤ a) : IntKind.u64.wrap (-IntKind.u64.wrap a) = -a := by
  simp only [u64_is]; omega
theorem div_pp (a b : Int) (ha : 0 ≤ a) : a.tdiv b = a / b := Int.tdiv_eq_ediv_of_nonneg ha
theorem div_nn (a b : Int) (ha : a < 0) : a.tdiv b = -a / -b := by
  rw [← Int.tdiv_eq_ediv_of_nonneg (by omega : 0 ≤ -a), Int.neg_tdiv, Int.tdiv_neg]; omega
theorem ref_mod (a b : Int) (ha : F64 a) : wrap64 (a - wrap64 (b * wrap64 (a.tdiv b))) = a.tmod b := by
  rw [wrap_sub_right, ← wrap_sub_right, wrap_mul_right, wrap_sub_right, ← Int.tmod_def]
  refine wrap_fits ?_
  have h := Int.natAbs_tmod a b
  have h2 : a.natAbs % b.natAbs ≤ a.natAbs := Nat.mod_le _ _
  have p := rest_pos a b
  have n := rest_neg a b
  unfold F64 at *
  omega
end Go.Proofs.YtafcbgapllkghaaGreatDoor
/- Contracts of the functions of layer 1 (num) that layer 4 calls, and of the document's own answers for them. -/
namespace Go.Proofs.YtafcbgapllkghaaGreatDoor
open Go.ChangeShapes Go.WideShapes Go.ChangeAt Go.RowKit
set_option linter.unusedVariables false

theorem add_any (a b : Int) (w : World) :
    Calls Tryz.prog 63 #[.int .i64 a, .int .i64 b] w fun e w' => e = .returned (.int .i64 (wrap64 (a + b))) ∧ w = w' := by
  go_enter Tryz.func63, Tryz.ntmps63
  go_wp2
  go_ret
  exact ⟨rfl, rfl⟩

theorem sub_any (a b : Int) (w : World) :
    Calls Tryz.prog 64 #[.int .i64 a, .int .i64 b] w fun e w' => e = .returned (.int .i64 (wrap64 (a - b))) ∧ w = w' := by
  go_enter Tryz.func64, Tryz.ntmps64
  go_wp2
  go_ret
  exact ⟨rfl, rfl⟩

theorem mul_any (a b : Int) (w : World) :
    Calls Tryz.prog 65 #[.int .i64 a, .int .i64 b] w fun e w' => e = .returned (.int .i64 (wrap64 (a * b))) ∧ w = w' := by
  go_enter Tryz.func65, Tryz.ntmps65
  go_wp2
  go_ret
  exact ⟨rfl, rfl⟩

theorem neg_any (a : Int) (w : World) :
    Calls Tryz.prog 50 #[.int .i64 a] w fun e w' => e = .returned (.int .i64 (wrap64 (-a))) ∧ w = w' := by
  go_enter Tryz.func50, Tryz.ntmps50
  go_wp2
  go_ret
  exact ⟨rfl, rfl⟩

theorem div_zero (a : Int) (w : World) :
    Calls Tryz.prog 66 #[.int .i64 a, .int .i64 0] w fun e w' => e = .returned (.tuple #[.int .i64 0, .iface 78 (.int .i64 9)]) ∧ w = w' := by
  go_enter Tryz.func66, Tryz.ntmps66
  go_wp2
  go_ret2
  exact ⟨rfl, rfl⟩

theorem div_any (a b : Int) (w : World) (hb : (b == 0) = false) (hb' : ¬ b = 0) :
    Calls Tryz.prog 66 #[.int .i64 a, .int .i64 b] w fun e w' => e = .returned (.tuple #[.int .i64 (wrap64 (a.tdiv b)), .nilIface]) ∧ w = w' := by
  go_enter Tryz.func66, Tryz.ntmps66
  go_wp2
  go_ret2
  exact ⟨rfl, rfl⟩

theorem mod_zero (a : Int) (w : World) :
    Calls Tryz.prog 67 #[.int .i64 a, .int .i64 0] w fun e w' => e = .returned (.tuple #[.int .i64 0, .iface 78 (.int .i64 9)]) ∧ w = w' := by
  go_enter Tryz.func67, Tryz.ntmps67
  go_wp2
  go_ret2
  exact ⟨rfl, rfl⟩

theorem mod_any (a b : Int) (w : World) (hb : (b == 0) = false) (hb' : ¬ b = 0) :
    Calls Tryz.prog 67 #[.int .i64 a, .int .i64 b] w fun e w' => e = .returned (.tuple #[.int .i64 (a.tmod b), .nilIface]) ∧ w = w' := by
  go_enter Tryz.func67, Tryz.ntmps67
  go_wp2
  go_ret2
  exact ⟨rfl, rfl⟩

theorem radd_any (a b : Int) (w : World) :
    Calls Tryz.prog 52 #[.int .i64 a, .int .i64 b] w fun e w' => e = .returned (.int .i64 (wrap64 (a + b))) ∧ w = w' := by
  go_enter Tryz.func52, Tryz.ntmps52
  go_wp2
  go_ret
  exact ⟨ret_int (ref_add a b), rfl⟩

theorem rsub_any (a b : Int) (w : World) :
    Calls Tryz.prog 40 #[.int .i64 a, .int .i64 b] w fun e w' => e = .returned (.int .i64 (wrap64 (a - b))) ∧ w = w' := by
  go_enter Tryz.func40, Tryz.ntmps40
  go_wp2
  go_ret
  exact ⟨ret_int (ref_sub a b), rfl⟩

theorem rmul_any (a b : Int) (w : World) :
    Calls Tryz.prog 53 #[.int .i64 a, .int .i64 b] w fun e w' => e = .returned (.int .i64 (wrap64 (a * b))) ∧ w = w' := by
  go_enter Tryz.func53, Tryz.ntmps53
  go_wp2
  go_ret
  exact ⟨ret_int (ref_mul a b), rfl⟩

theorem size_neg (a : Int) (w : World) (h : a < 0) (h2 : -9223372036854775808 ≤ a) :
    Calls Tryz.prog 69 #[.int .i64 a] w fun e w' => e = .returned (.int .u64 (-a)) ∧ w = w' := by
  go_enter Tryz.func69, Tryz.ntmps69
  go_wp2
  go_ret
  exact ⟨ret_int (size_neg_is a h h2), rfl⟩

theorem size_pos (a : Int) (w : World) (h : 0 ≤ a) (h2 : a ≤ 9223372036854775807) :
    Calls Tryz.prog 69 #[.int .i64 a] w fun e w' => e = .returned (.int .u64 a) ∧ w = w' := by
  go_enter Tryz.func69, Tryz.ntmps69
  go_wp2
  go_ret
  exact ⟨rfl, rfl⟩

theorem rdiv_pp (a b : Int) (w : World) (n0 : ¬ b = 0) (ha : 0 ≤ a) (ha2 : a ≤ 9223372036854775807) (hb : 0 ≤ b) (hb2 : b ≤ 9223372036854775807) :
    Calls Tryz.prog 54 #[.int .i64 a, .int .i64 b] w fun e w' => e = .returned (.int .i64 (wrap64 (a.tdiv b))) ∧ w = w' := by
  have d1 : decide (a < 0) = false := by simpa using ha
  have d2 : decide (b < 0) = false := by simpa using hb
  go_enter Tryz.func54, Tryz.ntmps54
  go_wp2_with (first | (go_at_call 69; (with_reducible refine (size_pos a _ ha ha2).mono ?_); rintro e w' ⟨rfl, rfl⟩) | (go_at_call 69; (with_reducible refine (size_pos b _ hb hb2).mono ?_); rintro e w' ⟨rfl, rfl⟩))
  go_ret
  exact ⟨ret_int (by rw [div_pp a b ha]), rfl⟩

theorem rdiv_nn (a b : Int) (w : World) (n0 : ¬ b = 0) (ha : a < 0) (ha2 : -9223372036854775808 ≤ a) (hb : b < 0) (hb2 : -9223372036854775808 ≤ b) :
    Calls Tryz.prog 54 #[.int .i64 a, .int .i64 b] w fun e w' => e = .returned (.int .i64 (wrap64 (a.tdiv b))) ∧ w = w' := by
  go_enter Tryz.func54, Tryz.ntmps54
  go_wp2_with (first | (go_at_call 69; (with_reducible refine (size_neg a _ ha ha2).mono ?_); rintro e w' ⟨rfl, rfl⟩) | (go_at_call 69; (with_reducible refine (size_neg b _ hb hb2).mono ?_); rintro e w' ⟨rfl, rfl⟩))
  go_ret
  exact ⟨ret_int (by rw [div_nn a b ha]; exact ref_u _), rfl⟩

theorem rdiv_np (a b : Int) (w : World) (n0 : ¬ b = 0) (ha : a < 0) (ha2 : -9223372036854775808 ≤ a) (hb : 0 ≤ b) (hb2 : b ≤ 9223372036854775807) :
    Calls Tryz.prog 54 #[.int .i64 a, .int .i64 b] w fun e w' => e = .returned (.int .i64 (wrap64 (a.tdiv b))) ∧ w = w' := by
  have d2 : decide (b < 0) = false := by simpa using hb
  go_enter Tryz.func54, Tryz.ntmps54
  go_wp2_with (first | (go_at_call 69; (with_reducible refine (size_neg a _ ha ha2).mono ?_); rintro e w' ⟨rfl, rfl⟩) | (go_at_call 69; (with_reducible refine (size_pos b _ hb hb2).mono ?_); rintro e w' ⟨rfl, rfl⟩))
  go_ret
  exact ⟨ret_int (ref_back _), rfl⟩

theorem rdiv_pn (a b : Int) (w : World) (n0 : ¬ b = 0) (ha : 0 ≤ a) (ha2 : a ≤ 9223372036854775807) (hb : b < 0) (hb2 : -9223372036854775808 ≤ b) :
    Calls Tryz.prog 54 #[.int .i64 a, .int .i64 b] w fun e w' => e = .returned (.int .i64 (wrap64 (a.tdiv b))) ∧ w = w' := by
  have d1 : decide (a < 0) = false := by simpa using ha
  go_enter Tryz.func54, Tryz.ntmps54
  go_wp2_with (first | (go_at_call 69; (with_reducible refine (size_pos a _ ha ha2).mono ?_); rintro e w' ⟨rfl, rfl⟩) | (go_at_call 69; (with_reducible refine (size_neg b _ hb hb2).mono ?_); rintro e w' ⟨rfl, rfl⟩))
  go_ret
  exact ⟨ret_int (ref_back _), rfl⟩

theorem rdiv_any (a b : Int) (w : World) (n0 : ¬ b = 0) (ha : F64 a) (hb : F64 b) :
    Calls Tryz.prog 54 #[.int .i64 a, .int .i64 b] w fun e w' => e = .returned (.int .i64 (wrap64 (a.tdiv b))) ∧ w = w' := by
  by_cases p : 0 ≤ a <;> by_cases q : 0 ≤ b
  · exact rdiv_pp a b w n0 p ha.2 q hb.2
  · exact rdiv_pn a b w n0 p ha.2 (by omega) hb.1
  · exact rdiv_np a b w n0 (by omega) ha.1 q hb.2
  · exact rdiv_nn a b w n0 (by omega) ha.1 (by omega) hb.1

theorem rmod_any (a b : Int) (w : World) (n0 : ¬ b = 0) (ha : F64 a) (hb : F64 b) :
    Calls Tryz.prog 55 #[.int .i64 a, .int .i64 b] w fun e w' => e = .returned (.int .i64 (a.tmod b)) ∧ w = w' := by
  go_enter Tryz.func55, Tryz.ntmps55
  go_wp2_with (first | (go_at_call 54; (with_reducible refine (rdiv_any a b _ n0 ha hb).mono ?_); rintro e w' ⟨rfl, rfl⟩) | (go_at_call 53; refine (rmul_any _ _ _).mono ?_; rintro e w' ⟨rfl, rfl⟩) | (go_at_call 40; refine (rsub_any _ _ _).mono ?_; rintro e w' ⟨rfl, rfl⟩))
  go_ret
  exact ⟨ret_int (ref_mod a b ha), rfl⟩

end Go.Proofs.YtafcbgapllkghaaGreatDoor
