/- Plain arithmetic on numbers that go round at 64 bits: sums, products, quotients and rests. -/
import Derived.RowKit
import Derived.IntWalk
import Derived.Test.YtafcbgapllkghaaDoorZgen
namespace Go.Proofs.YtafcbgapllkghaaDoor
open Go.RowKit

theorem wrap_turn (x k : Int) : wrap64 (x + k * 18446744073709551616) = wrap64 x := by unfold wrap64; omega

theorem wrap_turns (x : Int) : ∃ k : Int, wrap64 x = x + k * 18446744073709551616 :=
  ⟨-((x + 9223372036854775808) / 18446744073709551616), by unfold wrap64; omega⟩

theorem wrap_same {x y : Int} (k : Int) (h : x = y + k * 18446744073709551616) : wrap64 x = wrap64 y := by
  rw [h, wrap_turn]

theorem wrap_add_left (x y : Int) : wrap64 (wrap64 x + y) = wrap64 (x + y) := by unfold wrap64; omega
theorem wrap_add_right (x y : Int) : wrap64 (x + wrap64 y) = wrap64 (x + y) := by unfold wrap64; omega
theorem wrap_sub_left (x y : Int) : wrap64 (wrap64 x - y) = wrap64 (x - y) := by unfold wrap64; omega
theorem wrap_sub_right (x y : Int) : wrap64 (x - wrap64 y) = wrap64 (x - y) := by unfold wrap64; omega
theorem wrap_mul_left (x y : Int) : wrap64 (wrap64 x * y) = wrap64 (x * y) := by
  obtain ⟨k, hk⟩ := wrap_turns x
  refine wrap_same (k * y) ?_
  rw [hk, Int.add_mul, Int.mul_assoc, Int.mul_assoc, Int.mul_comm 18446744073709551616 y]
theorem wrap_mul_right (x y : Int) : wrap64 (x * wrap64 y) = wrap64 (x * y) := by
  rw [Int.mul_comm, wrap_mul_left, Int.mul_comm]

theorem ring_spread (a b c : Int) : wrap64 (a * wrap64 (b + c)) = wrap64 (wrap64 (a * b) + wrap64 (a * c)) := by
  rw [wrap_mul_right, wrap_add_left, wrap_add_right, Int.mul_add]
theorem ring_add (a b c : Int) : wrap64 (wrap64 (a + b) + c) = wrap64 (a + wrap64 (b + c)) := by
  rw [wrap_add_left, wrap_add_right, Int.add_assoc]
theorem ring_mul (a b c : Int) : wrap64 (wrap64 (a * b) * c) = wrap64 (a * wrap64 (b * c)) := by
  rw [wrap_mul_left, wrap_mul_right, Int.mul_assoc]

/-- a number of 64 bits with a sign -/
def F64 (a : Int) : Prop := -9223372036854775808 ≤ a ∧ a ≤ 9223372036854775807
theorem wrap_fits {a : Int} (h : F64 a) : wrap64 a = a := by unfold F64 at h; unfold wrap64; omega
theorem fits_of_wf {a : Int} (h : (Lit.int .i64 a).wf = true) : F64 a := by
  simp only [Lit.wf, Bool.and_eq_true, decide_eq_true_eq] at h
  exact ⟨h.1, h.2⟩

theorem back_sub (a b : Int) (h : F64 a) : wrap64 (wrap64 (a + b) - b) = a := by
  rw [wrap_sub_left, show a + b - b = a by omega, wrap_fits h]
theorem back_neg (a : Int) : wrap64 (a + wrap64 (-a)) = 0 := by
  rw [wrap_add_right, show a + -a = 0 by omega]; unfold wrap64; omega
theorem back_mul (a b : Int) : wrap64 (a * b) = wrap64 (b * a) := by rw [Int.mul_comm]
theorem back_parts (a b : Int) (h : F64 a) : wrap64 (wrap64 (wrap64 (a.tdiv b) * b) + a.tmod b) = a := by
  rw [wrap_add_left, ← wrap_add_left, wrap_mul_left, wrap_add_left, Int.tdiv_mul_add_tmod, wrap_fits h]

theorem rest_pos (a b : Int) (h : 0 < a.tmod b) : 0 < a := by
  refine Int.not_le.mp fun hn => ?_
  have h2 : 0 ≤ (-a).tmod b := Int.tmod_nonneg b (by omega)
  rw [Int.neg_tmod] at h2
  omega
theorem rest_neg (a b : Int) (h : a.tmod b < 0) : a < 0 := by
  refine Int.not_le.mp fun hn => ?_
  have := Int.tmod_nonneg b hn
  omega
theorem rest_lt (a b : Int) (hb : b ≠ 0) : (0 < b → a.tmod b < b ∧ -b < a.tmod b) ∧ (b < 0 → b < a.tmod b ∧ a.tmod b < -b) := by
  have h := Int.natAbs_tmod a b
  have h2 : a.natAbs % b.natAbs < b.natAbs := Nat.mod_lt _ (by omega)
  rw [← h] at h2
  omega

theorem u64_is (x : Int) : IntKind.u64.wrap x = x % 18446744073709551616 := by
  simp [IntKind.wrap, IntKind.bits, IntKind.signed]
theorem ref_add (a b : Int) : wrap64 (IntKind.u64.wrap (IntKind.u64.wrap a + IntKind.u64.wrap b)) = wrap64 (a + b) := by
  simp only [u64_is]; unfold wrap64; omega
theorem ref_sub (a b : Int) : wrap64 (IntKind.u64.wrap (IntKind.u64.wrap a - IntKind.u64.wrap b)) = wrap64 (a - b) := by
  simp only [u64_is]; unfold wrap64; omega
theorem ref_u (q : Int) : wrap64 (IntKind.u64.wrap q) = wrap64 q := by
  simp only [u64_is]; unfold wrap64; omega
theorem ref_back (t : Int) : wrap64 (IntKind.u64.wrap (-IntKind.u64.wrap (-t))) = wrap64 t := by
  simp only [u64_is]; unfold wrap64; omega
theorem ref_mul (a b : Int) : wrap64 (IntKind.u64.wrap (IntKind.u64.wrap a * IntKind.u64.wrap b)) = wrap64 (a * b) := by
  simp only [u64_is]
  rw [← Int.mul_emod]; unfold wrap64; omega
theorem size_neg_is (a : Int) (h : a < 0) (h2 : -9223372036854775808 ≤ a) : IntKind.u64.wrap (-IntKind.u64.wrap a) = -a := by
  simp only [u64_is]; omega
theorem div_pp (a b : Int) (ha : 0 ≤ a) : a.tdiv b = a / b := Int.tdiv_eq_ediv_of_nonneg ha
theorem div_nn (a b : Int) (ha : a < 0) : a.tdiv b = -a / -b := by
  rw [← Int.tdiv_eq_ediv_of_nonneg (by omega : 0 ≤ -a), Int.neg_tdiv, Int.tdiv_neg]; omega
theorem ref_mod (a b : Int) (ha : F64 a) : wrap64 (a - wrap64 (b * wrap64 (a.tdiv b))) = a.tmod b := by
  rw [wrap_sub_right, ← wrap_sub_right, wrap_mul_right, wrap_sub_right, ← Int.tmod_def]
  refine wrap_fits ?_
  have h := Int.natAbs_tmod a b
  have h2 : a.natAbs % b.natAbs ≤ a.natAbs := Nat.mod_le _ _
  have p := rest_pos a b
  have n := rest_neg a b
  unfold F64 at *
  omega
end Go.Proofs.YtafcbgapllkghaaDoor
/- Contracts of the functions of layer 1 (num) that layer 4 calls, and of the document's own answers for them. -/
namespace Go.Proofs.YtafcbgapllkghaaDoor
open Go.ChangeShapes Go.WideShapes Go.ChangeAt Go.RowKit
set_option linter.unusedVariables false

theorem add_any (a b : Int) (w : World) :
    Calls Tryd.prog 40 #[.int .i64 a, .int .i64 b] w fun e w' => e = .returned (.int .i64 (wrap64 (a + b))) ∧ w = w' := by
  go_enter Tryd.func40, Tryd.ntmps40
  go_wp2
  go_ret
  exact ⟨rfl, rfl⟩

theorem sub_any (a b : Int) (w : World) :
    Calls Tryd.prog 41 #[.int .i64 a, .int .i64 b] w fun e w' => e = .returned (.int .i64 (wrap64 (a - b))) ∧ w = w' := by
  go_enter Tryd.func41, Tryd.ntmps41
  go_wp2
  go_ret
  exact ⟨rfl, rfl⟩

theorem mul_any (a b : Int) (w : World) :
    Calls Tryd.prog 42 #[.int .i64 a, .int .i64 b] w fun e w' => e = .returned (.int .i64 (wrap64 (a * b))) ∧ w = w' := by
  go_enter Tryd.func42, Tryd.ntmps42
  go_wp2
  go_ret
  exact ⟨rfl, rfl⟩

theorem neg_any (a : Int) (w : World) :
    Calls Tryd.prog 31 #[.int .i64 a] w fun e w' => e = .returned (.int .i64 (wrap64 (-a))) ∧ w = w' := by
  go_enter Tryd.func31, Tryd.ntmps31
  go_wp2
  go_ret
  exact ⟨rfl, rfl⟩

theorem div_zero (a : Int) (w : World) :
    Calls Tryd.prog 43 #[.int .i64 a, .int .i64 0] w fun e w' => e = .returned (.tuple #[.int .i64 0, .iface 59 (.int .i64 9)]) ∧ w = w' := by
  go_enter Tryd.func43, Tryd.ntmps43
  go_wp2
  go_ret2
  exact ⟨rfl, rfl⟩

theorem div_any (a b : Int) (w : World) (hb : (b == 0) = false) (hb' : ¬ b = 0) :
    Calls Tryd.prog 43 #[.int .i64 a, .int .i64 b] w fun e w' => e = .returned (.tuple #[.int .i64 (wrap64 (a.tdiv b)), .nilIface]) ∧ w = w' := by
  go_enter Tryd.func43, Tryd.ntmps43
  go_wp2
  go_ret2
  exact ⟨rfl, rfl⟩

theorem mod_zero (a : Int) (w : World) :
    Calls Tryd.prog 44 #[.int .i64 a, .int .i64 0] w fun e w' => e = .returned (.tuple #[.int .i64 0, .iface 59 (.int .i64 9)]) ∧ w = w' := by
  go_enter Tryd.func44, Tryd.ntmps44
  go_wp2
  go_ret2
  exact ⟨rfl, rfl⟩

theorem mod_any (a b : Int) (w : World) (hb : (b == 0) = false) (hb' : ¬ b = 0) :
    Calls Tryd.prog 44 #[.int .i64 a, .int .i64 b] w fun e w' => e = .returned (.tuple #[.int .i64 (a.tmod b), .nilIface]) ∧ w = w' := by
  go_enter Tryd.func44, Tryd.ntmps44
  go_wp2
  go_ret2
  exact ⟨rfl, rfl⟩

end Go.Proofs.YtafcbgapllkghaaDoor
