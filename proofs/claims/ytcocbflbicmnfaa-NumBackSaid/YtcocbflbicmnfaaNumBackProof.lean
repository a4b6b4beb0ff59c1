/- Proved: for any two 64-bit numbers the law NumBack returns true: what was added is taken away again, quotient times b and rest together are a, and the rest is less than b, of the sign of a. Conditions: none. -/
import Derived.Test.YtcocbflbicmnfaaRows
import Derived.Test.YtcocbflbicmnfaaNums
import Derived.Test.YtcocbflbicmnfaaBase
import Derived.WalkKit
import Derived.ProofKit
import Derived.OpenShut
import Derived.Lib.Hide
namespace Go.Proofs.Ytcocbflbicmnfaa.numBack
open Go.ChangeShapes Go.WideShapes Go.ChangeAt Go.RowKit
set_option linter.unusedVariables false      -- a walk need not use every 'w<i>' (that an integer argument fits its kind)

theorem own : ownKnob Try.prog.godebug = none := by kernel_rfl

theorem walk_zero (a : Int) (hf : Fits a) (w : World) :
    Calls Try.prog 5 #[.int .i64 a, .int .i64 0] w fun e w' => e = .returned (.bool true) ∧ Grown w w' := by
  have h1 : (wrap64 (wrap64 a) != a) = false := bne_eq_false_iff_eq.mpr (by rw [wrap_fits hf, wrap_fits hf])
  have h2 : (wrap64 (a + wrap64 (-a)) != 0) = false := bne_eq_false_iff_eq.mpr (back_neg a)
  have n1 := neq_zero_nil
  clear hf
  go_enter Try.func5, Try.ntmps5
  go_wp2_with (first | (go_at_call 7; refine (up_any _).mono ?_; rintro e w' ⟨rfl, rfl⟩) | (go_at_call 9; refine (add_any _ _ _).mono ?_; rintro e w' ⟨rfl, rfl⟩) | (go_at_call 11; refine (sub_any _ _ _).mono ?_; rintro e w' ⟨rfl, rfl⟩) | (go_at_call 13; refine (mul_any _ _ _).mono ?_; rintro e w' ⟨rfl, rfl⟩) | (go_at_call 15; refine (neg_any _ _).mono ?_; rintro e w' ⟨rfl, rfl⟩) | (go_at_call 17; refine (div_zero _ _).mono ?_; rintro e w' ⟨rfl, rfl⟩) | (go_at_call 18; refine (mod_zero _ _).mono ?_; rintro e w' ⟨rfl, rfl⟩))
  go_ret
  exact ⟨rfl, Grown.refl _⟩

theorem div_is (a b q : Int) (w : World) (hb : ¬ b = 0) (hq : Hid (wrap64 (a.tdiv b) = q)) :
    Calls Try.prog 17 #[.int .i64 a, .int .i64 b] w fun e w' => e = .returned (.tuple #[.int .i64 q, .nilIface]) ∧ w = w' := by
  obtain rfl := hq.out
  exact div_any a b w (by simpa using hb) hb
theorem mod_is (a b r : Int) (w : World) (hb : ¬ b = 0) (hr : Hid (a.tmod b = r)) :
    Calls Try.prog 18 #[.int .i64 a, .int .i64 b] w fun e w' => e = .returned (.tuple #[.int .i64 r, .nilIface]) ∧ w = w' := by
  obtain rfl := hr.out
  exact mod_any a b w (by simpa using hb) hb

theorem walk_even (a b q : Int) (w : World) (hb : ¬ b = 0) (hq : Hid (wrap64 (a.tdiv b) = q)) (hr : Hid (a.tmod b = 0))
    (h1 : (wrap64 (wrap64 (a + b) - b) != a) = false) (h2 : (wrap64 (a + wrap64 (-a)) != 0) = false)
    (h3 : (wrap64 (a * b) != wrap64 (b * a)) = false) (h4 : (wrap64 (wrap64 (q * b)) != a) = false) :
    Calls Try.prog 5 #[.int .i64 a, .int .i64 b] w fun e w' => e = .returned (.bool true) ∧ Grown w w' := by
  have hb' : (b == 0) = false := by simpa using hb
  go_enter Try.func5, Try.ntmps5
  go_wp2_with (first | (go_at_call 7; refine (up_any _).mono ?_; rintro e w' ⟨rfl, rfl⟩) | (go_at_call 9; refine (add_any _ _ _).mono ?_; rintro e w' ⟨rfl, rfl⟩) | (go_at_call 11; refine (sub_any _ _ _).mono ?_; rintro e w' ⟨rfl, rfl⟩) | (go_at_call 13; refine (mul_any _ _ _).mono ?_; rintro e w' ⟨rfl, rfl⟩) | (go_at_call 15; refine (neg_any _ _).mono ?_; rintro e w' ⟨rfl, rfl⟩) | (go_at_call 17; refine (div_is _ _ _ _ hb hq).mono ?_; rintro e w' ⟨rfl, rfl⟩) | (go_at_call 18; refine (mod_is _ _ _ _ hb hr).mono ?_; rintro e w' ⟨rfl, rfl⟩))
  go_ret
  exact ⟨rfl, Grown.refl _⟩

set_option maxHeartbeats 1000000 in
theorem walk_odd (a b q r : Int) (w : World) (hb : ¬ b = 0) (hq : Hid (wrap64 (a.tdiv b) = q)) (hr : Hid (a.tmod b = r))
    (b1 : -9223372036854775808 ≤ b) (b2 : b ≤ 9223372036854775807)
    (h1 : (wrap64 (wrap64 (a + b) - b) != a) = false) (h2 : (wrap64 (a + wrap64 (-a)) != 0) = false)
    (h3 : (wrap64 (a * b) != wrap64 (b * a)) = false) (h4 : (wrap64 (wrap64 (q * b) + r) != a) = false)
    (h5 : (0 < r ∧ 0 < a ∧ (0 < b ∧ r < b ∨ b < 0 ∧ b < -r)) ∨ (r < 0 ∧ a < 0 ∧ (0 < b ∧ -b < r ∨ b < 0 ∧ b < r))) :
    Calls Try.prog 5 #[.int .i64 a, .int .i64 b] w fun e w' => e = .returned (.bool true) ∧ Grown w w' := by
  have hb' : (b == 0) = false := by simpa using hb
  have hr0 : (r == 0) = false := by simp; omega
  rcases h5 with ⟨g1, g2, ⟨g3, g4⟩ | ⟨g3, g4⟩⟩ | ⟨g1, g2, ⟨g3, g4⟩ | ⟨g3, g4⟩⟩
  all_goals
    go_enter Try.func5, Try.ntmps5
    go_wp2_with (first | (go_at_call 7; refine (up_any _).mono ?_; rintro e w' ⟨rfl, rfl⟩) | (go_at_call 9; refine (add_any _ _ _).mono ?_; rintro e w' ⟨rfl, rfl⟩) | (go_at_call 11; refine (sub_any _ _ _).mono ?_; rintro e w' ⟨rfl, rfl⟩) | (go_at_call 13; refine (mul_any _ _ _).mono ?_; rintro e w' ⟨rfl, rfl⟩) | (go_at_call 15; refine (neg_any _ _).mono ?_; rintro e w' ⟨rfl, rfl⟩) | (go_at_call 17; refine (div_is _ _ _ _ hb hq).mono ?_; rintro e w' ⟨rfl, rfl⟩) | (go_at_call 18; refine (mod_is _ _ _ _ hb hr).mono ?_; rintro e w' ⟨rfl, rfl⟩))
    go_ret
    exact ⟨rfl, Grown.refl _⟩

theorem walk (a0 : Int) (a1 : Int) (w0 : (Lit.int .i64 a0).wf = true) (w1 : (Lit.int .i64 a1).wf = true) (w : World) :
    Calls Try.prog 5 #[.int .i64 a0, .int .i64 a1] w fun e w' => e = .returned (.bool true) ∧ Grown w w' := by
  have f0 := fits_of_wf w0
  have f1 := fits_of_wf w1
  by_cases h0 : a1 = 0
  · subst h0; exact walk_zero a0 f0 w
  · have e1 := bne_eq_false_iff_eq.mpr (back_sub a0 a1 f0)
    have e2 := bne_eq_false_iff_eq.mpr (back_neg a0)
    have e3 := bne_eq_false_iff_eq.mpr (back_mul a0 a1)
    have e4 := back_parts a0 a1 f0
    by_cases hr : a0.tmod a1 = 0
    · rw [hr, Int.add_zero] at e4
      exact walk_even a0 a1 _ w h0 (Lib.hid rfl) (Lib.hid hr) e1 e2 e3 (bne_eq_false_iff_eq.mpr e4)
    · have p := rest_pos a0 a1
      have n := rest_neg a0 a1
      have l := rest_lt a0 a1 h0
      exact walk_odd a0 a1 _ _ w h0 (Lib.hid rfl) (Lib.hid rfl) f1.1 f1.2 e1 e2 e3 (bne_eq_false_iff_eq.mpr e4) (by omega)

set_option maxRecDepth 100000 in
theorem lifted (os : Os) (started : os.Started) (H : Type) (enc : TypeId × Value → H) :
    ReturnsInHanded {} Try.checked os 5 .any (Rows.numBackSpec.pre6 enc Try.prog Try.f5 Rows.numBackRow.domain false) (Rows.numBackSpec.post enc Try.prog Try.f5 false true false false) := by
  refine returnsInHanded_of_change (C := Try.checked) own started (by kernel_rfl) Try.func5
    (ChangeSpec.witness6 (enc := enc) (C := Try.checked) false ⟨#[], #[.int .i64 0, .int .i64 0], []⟩ 8 (by kernel_rfl) (by kernel_rfl) (by kernel_rfl) (by kernel_rfl)) ?_
  intro W base args ds gs before hval0 hW hcnd _
  have hval : ∀ (j : Nat) t v, Try.f5.params[j]? = some t → args[j]? = some v → Value.okWide Try.prog W .any base t v := hval0
  have hW' := hW
  obtain ⟨p, q, hA0, hV, rfl, hfz, hnd⟩ := hW
  have hA : DataW.TrodAll enc Try.prog W 0 (fun _ => true) true Try.f5.params.toList args.toList ds p := hA0
  rw [Try.params5] at hA hval
  obtain ⟨v0, vs0, d0, ds0, p0, q0, hargs, rfl, rfl, h0, r0⟩ := trodAll_cons hA
  obtain ⟨v1, vs1, d1, ds1, p1, q1, rfl, rfl, rfl, h1, r1⟩ := trodAll_cons r0
  obtain ⟨rfl, rfl, rfl⟩ := trodAll_nil r1
  obtain rfl : args = #[v0, v1] := by cases args; simp_all
  obtain ⟨rfl, rfl⟩ := trodVars_none hV
  obtain ⟨a0, rfl, rfl, rfl, w0⟩ := open_int Try.underlying2 (hval 0 2 v0 rfl rfl) h0
  obtain ⟨a1, rfl, rfl, rfl, w1⟩ := open_int Try.underlying2 (hval 1 2 v1 rfl rfl) h1
  clear hA0 hval0
  simp only [List.append_nil] at hW'
  refine (walk a0 a1 w0 w1 W).mono fun e W' ⟨he, hg⟩ => ?_
  subst he
  exact ⟨_, rfl, post_of_same (pa := []) (pv := []) hW' (fun _ _ _ => (trodAll_cons_mk (shut_bool Try.underlying4 _) trodAll_mk0)) (fun sp _ => (trodAll_cons_mk (shut_int Try.underlying2 w0) (trodAll_cons_mk (shut_int Try.underlying2 w1) trodAll_mk0))) (fun _ _ => rfl) rfl
    (hg.frame _) hg.2.1 (ok_one (by kernel_rfl) rfl (okWide_bool_mk Try.underlying4 _))⟩

theorem over : Rows.numBackRow.holds Try.pinned (OpenSpec.ofChange Rows.numBackSpec) :=
  OpenClaim.holds_of_wide 5 Try.f5 rfl rfl rfl rfl rfl rfl rfl ⟨rfl, rfl, rfl, rfl, rfl⟩ rfl rfl rfl rfl rfl (by kernel_rfl) Try.func5 (by kernel_rfl)
    (of_decide_eq_true (by kernel_rfl)) (by unfold Func.isWrapper; first | (rw [if_pos (by decide +kernel)]; kernel_rfl) | (rw [if_neg (by decide +kernel)]; exact ⟨rfl, rfl⟩))
    (fun os started H enc _ => lifted os started H enc)

end Go.Proofs.Ytcocbflbicmnfaa.numBack

namespace Go.Proofs.Ytcocbflbicmnfaa
theorem numBack_proved : Rows.NumBackSaid := numBack.over
#print axioms numBack_proved
end Go.Proofs.Ytcocbflbicmnfaa
