/- Contracts of the document's own answers for layer 1 (num): the sum, difference, product, quotient and rest by numbers without a sign, and whether a sum went round. -/
import Derived.Test.YtcocbflbicmnfaaNums
import Derived.Test.YtcocbflbicmnfaaBase
namespace Go.Proofs.Ytcocbflbicmnfaa
open Go.ChangeShapes Go.WideShapes Go.ChangeAt Go.RowKit

theorem ret_int {k : IntKind} {a b : Int} (h : a = b) : Ending.returned (.int k a) = .returned (.int k b) := by rw [h]

theorem radd_any (a b : Int) (w : World) :
    Calls Try.prog 10 #[.int .i64 a, .int .i64 b] w fun e w' => e = .returned (.int .i64 (wrap64 (a + b))) ∧ w = w' := by
  go_enter Try.func10, Try.ntmps10
  go_wp2
  go_ret
  exact ⟨ret_int (ref_add a b), rfl⟩

theorem rsub_any (a b : Int) (w : World) :
    Calls Try.prog 12 #[.int .i64 a, .int .i64 b] w fun e w' => e = .returned (.int .i64 (wrap64 (a - b))) ∧ w = w' := by
  go_enter Try.func12, Try.ntmps12
  go_wp2
  go_ret
  exact ⟨ret_int (ref_sub a b), rfl⟩

theorem rmul_any (a b : Int) (w : World) :
    Calls Try.prog 14 #[.int .i64 a, .int .i64 b] w fun e w' => e = .returned (.int .i64 (wrap64 (a * b))) ∧ w = w' := by
  go_enter Try.func14, Try.ntmps14
  go_wp2
  go_ret
  exact ⟨ret_int (ref_mul a b), rfl⟩

theorem size_neg (a : Int) (w : World) (h : a < 0) (h2 : -9223372036854775808 ≤ a) :
    Calls Try.prog 21 #[.int .i64 a] w fun e w' => e = .returned (.int .u64 (-a)) ∧ w = w' := by
  go_enter Try.func21, Try.ntmps21
  go_wp2
  go_ret
  exact ⟨ret_int (size_neg_is a h h2), rfl⟩

theorem size_pos (a : Int) (w : World) (h : 0 ≤ a) (h2 : a ≤ 9223372036854775807) :
    Calls Try.prog 21 #[.int .i64 a] w fun e w' => e = .returned (.int .u64 a) ∧ w = w' := by
  go_enter Try.func21, Try.ntmps21
  go_wp2
  go_ret
  exact ⟨rfl, rfl⟩

theorem rdiv_pp (a b : Int) (w : World) (n0 : ¬ b = 0) (ha : 0 ≤ a) (ha2 : a ≤ 9223372036854775807) (hb : 0 ≤ b) (hb2 : b ≤ 9223372036854775807) :
    Calls Try.prog 19 #[.int .i64 a, .int .i64 b] w fun e w' => e = .returned (.int .i64 (wrap64 (a.tdiv b))) ∧ w = w' := by
  have d1 : decide (a < 0) = false := by simpa using ha
  have d2 : decide (b < 0) = false := by simpa using hb
  go_enter Try.func19, Try.ntmps19
  go_wp2_with (first | (go_at_call 21; (with_reducible refine (size_pos a _ ha ha2).mono ?_); rintro e w' ⟨rfl, rfl⟩) | (go_at_call 21; (with_reducible refine (size_pos b _ hb hb2).mono ?_); rintro e w' ⟨rfl, rfl⟩))
  go_ret
  exact ⟨ret_int (by rw [div_pp a b ha]), rfl⟩

theorem rdiv_nn (a b : Int) (w : World) (n0 : ¬ b = 0) (ha : a < 0) (ha2 : -9223372036854775808 ≤ a) (hb : b < 0) (hb2 : -9223372036854775808 ≤ b) :
    Calls Try.prog 19 #[.int .i64 a, .int .i64 b] w fun e w' => e = .returned (.int .i64 (wrap64 (a.tdiv b))) ∧ w = w' := by
  go_enter Try.func19, Try.ntmps19
  go_wp2_with (first | (go_at_call 21; (with_reducible refine (size_neg a _ ha ha2).mono ?_); rintro e w' ⟨rfl, rfl⟩) | (go_at_call 21; (with_reducible refine (size_neg b _ hb hb2).mono ?_); rintro e w' ⟨rfl, rfl⟩))
  go_ret
  exact ⟨ret_int (by rw [div_nn a b ha]; exact ref_u _), rfl⟩

theorem rdiv_np (a b : Int) (w : World) (n0 : ¬ b = 0) (ha : a < 0) (ha2 : -9223372036854775808 ≤ a) (hb : 0 ≤ b) (hb2 : b ≤ 9223372036854775807) :
    Calls Try.prog 19 #[.int .i64 a, .int .i64 b] w fun e w' => e = .returned (.int .i64 (wrap64 (a.tdiv b))) ∧ w = w' := by
  have d2 : decide (b < 0) = false := by simpa using hb
  go_enter Try.func19, Try.ntmps19
  go_wp2_with (first | (go_at_call 21; (with_reducible refine (size_neg a _ ha ha2).mono ?_); rintro e w' ⟨rfl, rfl⟩) | (go_at_call 21; (with_reducible refine (size_pos b _ hb hb2).mono ?_); rintro e w' ⟨rfl, rfl⟩))
  go_ret
  exact ⟨ret_int (ref_back _), rfl⟩

theorem rdiv_pn (a b : Int) (w : World) (n0 : ¬ b = 0) (ha : 0 ≤ a) (ha2 : a ≤ 9223372036854775807) (hb : b < 0) (hb2 : -9223372036854775808 ≤ b) :
    Calls Try.prog 19 #[.int .i64 a, .int .i64 b] w fun e w' => e = .returned (.int .i64 (wrap64 (a.tdiv b))) ∧ w = w' := by
  have d1 : decide (a < 0) = false := by simpa using ha
  go_enter Try.func19, Try.ntmps19
  go_wp2_with (first | (go_at_call 21; (with_reducible refine (size_pos a _ ha ha2).mono ?_); rintro e w' ⟨rfl, rfl⟩) | (go_at_call 21; (with_reducible refine (size_neg b _ hb hb2).mono ?_); rintro e w' ⟨rfl, rfl⟩))
  go_ret
  exact ⟨ret_int (ref_back _), rfl⟩

theorem rdiv_any (a b : Int) (w : World) (n0 : ¬ b = 0) (ha : Fits a) (hb : Fits b) :
    Calls Try.prog 19 #[.int .i64 a, .int .i64 b] w fun e w' => e = .returned (.int .i64 (wrap64 (a.tdiv b))) ∧ w = w' := by
  by_cases p : 0 ≤ a <;> by_cases q : 0 ≤ b
  · exact rdiv_pp a b w n0 p ha.2 q hb.2
  · exact rdiv_pn a b w n0 p ha.2 (by omega) hb.1
  · exact rdiv_np a b w n0 (by omega) ha.1 q hb.2
  · exact rdiv_nn a b w n0 (by omega) ha.1 (by omega) hb.1

theorem rmod_any (a b : Int) (w : World) (n0 : ¬ b = 0) (ha : Fits a) (hb : Fits b) :
    Calls Try.prog 20 #[.int .i64 a, .int .i64 b] w fun e w' => e = .returned (.int .i64 (a.tmod b)) ∧ w = w' := by
  go_enter Try.func20, Try.ntmps20
  go_wp2_with (first | (go_at_call 19; (with_reducible refine (rdiv_any a b _ n0 ha hb).mono ?_); rintro e w' ⟨rfl, rfl⟩) | (go_at_call 14; refine (rmul_any _ _ _).mono ?_; rintro e w' ⟨rfl, rfl⟩) | (go_at_call 12; refine (rsub_any _ _ _).mono ?_; rintro e w' ⟨rfl, rfl⟩))
  go_ret
  exact ⟨ret_int (ref_mod a b ha), rfl⟩

theorem big_any (a b : Int) (w : World) :
    Calls Try.prog 8 #[.int .i64 a, .int .i64 b] w fun e w' => e = .returned (.tuple #[.int .i64 (wrap64 (a + b)), .bool (decide (wrap64 (a + b) < a) != decide (b < 0))]) ∧ w = w' := by
  go_enter Try.func8, Try.ntmps8
  go_wp2
  go_ret2
  exact ⟨rfl, rfl⟩

theorem rbig_neg (a b : Int) (w : World) (h1 : a < 0) (h2 : b < 0) (h3 : -9223372036854775808 ≤ b) :
    Calls Try.prog 16 #[.int .i64 a, .int .i64 b] w fun e w' => e = .returned (.bool (decide (a < -9223372036854775808 - b))) ∧ w = w' := by
  go_enter Try.func16, Try.ntmps16
  go_wp2
  go_ret
  exact ⟨rfl, rfl⟩
theorem rbig_pos (a b : Int) (w : World) (h1 : 0 < a) (h2 : 0 < b) (h3 : b ≤ 9223372036854775807) :
    Calls Try.prog 16 #[.int .i64 a, .int .i64 b] w fun e w' => e = .returned (.bool (decide (9223372036854775807 - b < a))) ∧ w = w' := by
  have d1 : decide (a < 0) = false := by simp; omega
  go_enter Try.func16, Try.ntmps16
  go_wp2
  go_ret
  exact ⟨rfl, rfl⟩
theorem rbig_else (a b : Int) (w : World) (h1 : a = 0 ∨ b = 0 ∨ a < 0 ∧ 0 < b ∨ 0 < a ∧ b < 0) :
    Calls Try.prog 16 #[.int .i64 a, .int .i64 b] w fun e w' => e = .returned (.bool false) ∧ w = w' := by
  rcases h1 with rfl | rfl | ⟨g1, g2⟩ | ⟨g1, g2⟩
  · go_enter Try.func16, Try.ntmps16
    go_wp2
    go_ret
    exact ⟨rfl, rfl⟩
  · rcases Int.lt_trichotomy a 0 with g | rfl | g
    all_goals
      go_enter Try.func16, Try.ntmps16
      go_wp2
      go_ret
      exact ⟨rfl, rfl⟩
  · go_enter Try.func16, Try.ntmps16
    go_wp2
    go_ret
    exact ⟨rfl, rfl⟩
  · go_enter Try.func16, Try.ntmps16
    go_wp2
    go_ret
    exact ⟨rfl, rfl⟩

theorem rbig_any (a b : Int) (w : World) (ha : Fits a) (hb : Fits b) :
    Calls Try.prog 16 #[.int .i64 a, .int .i64 b] w fun e w' => e = .returned (.bool (decide (wrap64 (a + b) < a) != decide (b < 0))) ∧ w = w' := by
  obtain ⟨k1, k2, k3⟩ := big_is a b ha hb
  by_cases n : a < 0 ∧ b < 0
  · rw [k1 n.1 n.2]; exact rbig_neg a b w n.1 n.2 hb.1
  · by_cases p : 0 < a ∧ 0 < b
    · rw [k2 p.1 p.2]; exact rbig_pos a b w p.1 p.2 hb.2
    · rw [k3 (by omega) (by omega)]; exact rbig_else a b w (by omega)
end Go.Proofs.Ytcocbflbicmnfaa
