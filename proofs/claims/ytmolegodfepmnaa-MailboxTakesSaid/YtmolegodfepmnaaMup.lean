/- The head of layer 16's statements (spinetlaw16.up): it holds. -/
import Derived.Test.YtmolegodfepmnaaMdo
namespace Go.Proofs.Ytmolegodfepmnaa
open Go.ChangeShapes Go.WideShapes Go.ChangeAt Go.RowKit
set_option linter.unusedVariables false

theorem eql_codes (w : World) : (binOp .eql 26 (codeV 1) (codeV 1)).run Try.prog w = .ok (.bool true) w ∧ (binOp .eql 26 (codeV 6) (codeV 6)).run Try.prog w = .ok (.bool true) w ∧ (binOp .eql 26 (codeV 12) (codeV 12)).run Try.prog w = .ok (.bool true) w := ⟨by kernel_rfl, by kernel_rfl, by kernel_rfl⟩
theorem neq_codes (w : World) : (binOp .neq 26 (codeV 6) (codeV 6)).run Try.prog w = .ok (.bool false) w ∧ (binOp .neq 26 (codeV 12) (codeV 12)).run Try.prog w = .ok (.bool false) w := ⟨by kernel_rfl, by kernel_rfl⟩
theorem eql_nil_nil (w : World) : (binOp .eql 26 .nilIface .nilIface).run Try.prog w = .ok (.bool true) w := by kernel_rfl
theorem neq_nil_nil (w : World) : (binOp .neq 26 .nilIface .nilIface).run Try.prog w = .ok (.bool false) w := by kernel_rfl
set_option maxHeartbeats 4000000 in
theorem up_any (w : World) : Calls Try.prog 6 #[] w fun e w' => e = .returned (.bool true) ∧ Below w.heap.size w w' := by
  have e1 := fun W => (eql_codes W).1
  have e6 := fun W => (eql_codes W).2.1
  have en := eql_nil_nil
  have nn := neq_nil_nil
  go_enter Try.func6, Try.ntmps6
  go_wp2_with fail
  refine (new_ok 1 _ (by decide) (by decide)).mono ?_
  rintro e w1 ⟨rfl, h1, hb1⟩
  obtain ⟨b, hb⟩ : ∃ b, w.heap.size = b := ⟨_, rfl⟩
  rw [hb] at h1 hb1
  have hs1 : b ≤ w1.heap.size := by have := hb1.size; omega
  have HB := Lib.hid hb
  have H1 := Lib.hid h1
  have HB1 := Lib.hid hb1
  rw [hb]
  clear h1 hb1 hb
  go_wp2_with fail
  refine (new_bad 0 _ (.inl (by decide))).mono ?_
  rintro e w2 ⟨rfl, rfl⟩
  go_wp2_with fail
  refine (put_any H1.out hs1 5 (by decide)).mono ?_
  rintro e w3 ⟨rfl, v3, h3, m3⟩
  have hs3 : b ≤ w3.heap.size := Nat.le_trans hs1 m3.size
  have HB3 := Lib.hid (HB1.out.trans (H1.out.under m3 hs1))
  have H3 : Hid (FreeAt w3 b b 1 false v3 [5]) := h3
  rw [show putE 1 false [] = .nilIface from rfl]
  clear h3 m3 H1
  go_wp2_with fail
  refine (put_any H3.out hs3 6 (by decide)).mono ?_
  rintro e w4 ⟨rfl, v4, h4, m4⟩
  have hs4 : b ≤ w4.heap.size := Nat.le_trans hs3 m4.size
  have HB4 := Lib.hid (HB3.out.trans (H3.out.under m4 hs3))
  have H4 : Hid (FreeAt w4 b b 1 false v4 [5]) := h4
  rw [show putE 1 false [5] = codeV 6 from rfl]
  clear h4 m4 H3 HB3 HB1
  go_wp2_with fail
  refine (take_some H4.out hs4).mono ?_
  rintro e w5 ⟨rfl, v5, h5, m5⟩
  have hs5 : b ≤ w5.heap.size := Nat.le_trans hs4 m5.size
  have HB5 := Lib.hid (HB4.out.trans (H4.out.under m5 hs4))
  have H5 : Hid (FreeAt w5 b b 1 false v5 []) := h5
  clear h5 m5 H4 HB4
  go_wp2_with fail
  refine (len_any H5.out hs5).mono ?_
  rintro e w6 ⟨rfl, v6, h6, m6⟩
  have HB6 := Lib.hid (HB5.out.trans (H5.out.under m6 hs5))
  clear h6 m6 H5 HB5
  go_wp2_with fail
  go_ret
  exact ⟨rfl, by rw [HB.out]; exact HB6.out⟩
end Go.Proofs.Ytmolegodfepmnaa
