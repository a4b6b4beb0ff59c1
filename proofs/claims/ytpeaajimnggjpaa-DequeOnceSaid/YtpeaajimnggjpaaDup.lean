/- pick; the head of layer 19's statements (spinetlaw19.up): it holds. -/
import Derived.Test.YtpeaajimnggjpaaDfs
namespace Go.Proofs.Ytpeaajimnggjpaa
open Go.ChangeShapes Go.WideShapes Go.ChangeAt Go.RowKit
set_option linter.unusedVariables false

def F64 (x : Int) : Prop := -9223372036854775808 ≤ x ∧ x ≤ 9223372036854775807
/-- one of n -/
def pickF (c n : Int) : Int := (if c < 0 then -(c + 1) else c) % n
theorem pick_any (c n : Int) (w : World) (hc : F64 c) (h0 : 0 < n) (hn : n ≤ 1000000) : Calls Try.prog 6 #[.int .i64 c, .int .i64 n] w fun e w' => w' = w ∧ e = .returned (.int .i64 (pickF c n)) := by
  have hz : ¬ n = 0 := by omega
  have hz2 : (n == 0) = false := beq_false_of_ne hz
  unfold F64 at hc
  by_cases h : c < 0
  · obtain ⟨d, hd⟩ : ∃ d, d = -(c + 1) := ⟨_, rfl⟩
    have w1 : IntKind.i64.wrap (c + 1) = c + 1 := by rw [IntKind.wrap_i64]; omega
    have w2 : IntKind.i64.wrap (-(c + 1)) = d := by rw [IntKind.wrap_i64]; omega
    have w2' : IntKind.i64.wrap (-1 + -c) = d := by rw [IntKind.wrap_i64]; omega
    have w3 : Int.tmod d n = d % n := Int.tmod_eq_emod_of_nonneg (by omega)
    have h4 := Int.emod_nonneg d hz
    have h5 := Int.emod_lt_of_pos d h0
    have w4 : IntKind.i64.wrap (d % n) = d % n := by rw [IntKind.wrap_i64]; omega
    have HR : Hid (pickF c n = d % n) := Lib.hid (by unfold pickF; rw [if_pos h, hd])
    clear hd
    go_enter Try.func6, Try.ntmps6
    go_wp2_with fail
    go_ret
    exact ⟨rfl, by rw [HR.out] <;> rfl⟩
  · have w3 : Int.tmod c n = c % n := Int.tmod_eq_emod_of_nonneg (by omega)
    have h4 := Int.emod_nonneg c hz
    have h5 := Int.emod_lt_of_pos c h0
    have w4 : IntKind.i64.wrap (c % n) = c % n := by rw [IntKind.wrap_i64]; omega
    have HR : Hid (pickF c n = c % n) := Lib.hid (by unfold pickF; rw [if_neg h])
    go_enter Try.func6, Try.ntmps6
    go_wp2_with fail
    go_ret
    exact ⟨rfl, by rw [HR.out] <;> rfl⟩
theorem pickF_in (c : Int) {n : Int} (h : 0 < n) : 0 ≤ pickF c n ∧ pickF c n < n := ⟨Int.emod_nonneg _ (by omega), Int.emod_lt_of_pos _ h⟩

set_option maxHeartbeats 4000000 in
set_option maxRecDepth 100000 in
theorem up_any (w : World) : Calls Try.prog 5 #[] w fun e w' => e = .returned (.bool true) ∧ Below w.heap.size w w' := by
  have HN := Lib.hid (pushI_any w.heap.size w.heap.size _ [] 1 _ (DqAt.new w 26 3) (by simp) (by simp))
  go_enter Try.func5, Try.ntmps5
  go_wp2_with fail
  refine HN.out.mono ?_
  rintro e w1 ⟨rfl, v1, hd1, hk1, ho1⟩
  obtain ⟨g, hg⟩ : ∃ g, g = w.heap.size := ⟨_, rfl⟩
  rw [← hg]
  have hd1' : DqAt w.heap.size w1 g 26 3 v1 [.int .i64 1] := by rw [hg]; exact hd1
  have hb1 : Below w.heap.size w w1 := dq_frame (DqAt.new w 26 3) (Nat.le_refl _) (below_box w _) hk1
  have HB1 := Lib.hid hb1
  have HD1 := Lib.hid hd1'
  have HC := Lib.hid (pushI_any w.heap.size g v1 [.int .i64 1] 2 w1 hd1' (by simp) hb1.size)
  clear hd1 hk1 ho1 hg hd1' hb1 HN
  go_wp2_with fail
  refine HC.out.mono ?_
  rintro e w2 ⟨rfl, v2, hd2, hk2, ho2⟩
  have hb2 := dq_frame HD1.out (Nat.le_refl _) HB1.out hk2
  have HB2 := Lib.hid hb2
  have HD2 := Lib.hid hd2
  have HC2 := Lib.hid (pushI_any w.heap.size g v2 _ 3 w2 hd2 (by simp) hb2.size)
  clear hd2 hk2 ho2 hb2 HC
  go_wp2_with fail
  refine HC2.out.mono ?_
  rintro e w3 ⟨rfl, v3, hd3, hk3, ho3⟩
  have hb3 := dq_frame HD2.out (Nat.le_refl _) HB2.out hk3
  have HB3 := Lib.hid hb3
  have HD3 := Lib.hid hd3
  have HC3 := Lib.hid (stealI_some w.heap.size g v3 [.int .i64 2, .int .i64 3] 1 w3 hd3 (by simp))
  clear hd3 hk3 ho3 hb3 HC2
  go_wp2_with fail
  refine HC3.out.mono ?_
  rintro e w4 ⟨rfl, v4, hd4, hk4, ho4⟩
  have hb4 := dq_frame HD3.out (Nat.le_refl _) HB3.out hk4
  have HB4 := Lib.hid hb4
  have HD4 := Lib.hid hd4
  have HC4 := Lib.hid (popI_some w.heap.size g v4 [.int .i64 2] 3 w4 hd4 (by simp))
  clear hd4 hk4 ho4 hb4 HC3
  go_wp2_with fail
  refine HC4.out.mono ?_
  rintro e w5 ⟨rfl, v5, hd5, hk5, ho5⟩
  have hb5 := dq_frame HD4.out (Nat.le_refl _) HB4.out hk5
  have HB5 := Lib.hid hb5
  have HC5 := Lib.hid (popS_none w5.heap.size w5.heap.size _ _ (DqAt.new w5 37 9))
  have HC6 := Lib.hid (lenI_any w.heap.size g v5 _ _ (hd5.below (below_box w5 (.cells #[.slice none 0 0] 37))))
  clear hd5 hk5 ho5 hb5 HC4
  go_wp2_with fail
  refine HC5.out.mono ?_
  rintro e w6 ⟨rfl, rfl⟩
  go_wp2_with fail
  refine HC6.out.mono ?_
  rintro e w7 ⟨rfl, rfl⟩
  go_wp2_with fail
  go_ret
  exact ⟨rfl, HB5.out.trans ((below_box w5 _).mono HB5.out.size)⟩
end Go.Proofs.Ytpeaajimnggjpaa
