/- The head of layer 18's statements (spinetlaw18.up): it holds. -/
import Derived.Test.YtkcgpjlakhhggaaFup
namespace Go.Proofs.Ytkcgpjlakhhggaa
open Go.ChangeShapes Go.WideShapes Go.ChangeAt Go.RowKit
set_option linter.unusedVariables false

theorem own_base {w : World} {B B' : Nat} {e : TypeId} {s n : Nat} {v : Value} {xs : List Value} (h : w.ownsRow B e s v n xs) (hB : B' ≤ B) : w.ownsRow B' e s v n xs := by
  refine ⟨h.1, ?_⟩
  rcases h.2 with h2 | ⟨g, cap, cur, h1, h2, h3⟩
  · exact .inl h2
  · exact .inr ⟨g, cap, cur, h1, Nat.le_trans hB h2, h3⟩
theorem FeAt.base {B B' g room : Nat} {w : World} {rv : Value} {us : List (Value × Rd)} (h : FeAt B w g room rv us) (hB : B' ≤ B) : FeAt B' w g room rv us :=
  ⟨h.blk, own_base h.row hB, fun u hu => own_base (h.kept u hu) hB, h.apart, Nat.le_trans hB h.Bg⟩
theorem one_of_rds {us : List (Value × Rd)} {r : Rd} (h : rds us = [r]) : ∃ v, us = [(v, r)] := by
  unfold rds at h
  cases us with
  | nil => cases h
  | cons u us =>
    cases us with
    | nil =>
      simp at h
      exact ⟨u.1, by rw [← h]⟩
    | cons u' us => simp at h
set_option maxHeartbeats 4000000 in
set_option maxRecDepth 100000 in
theorem up_any (w : World) : Calls Try.prog 5 #[] w fun e w' => e = .returned (.bool true) ∧ Below w.heap.size w w' := by
  have ee := eql_nil_nil
  have en := neq_nil_nil
  have HN := Lib.hid (new_ok 2 w (by omega) (by omega))
  go_enter Try.func5, Try.ntmps5
  go_wp2_with fail
  refine HN.out.mono ?_
  rintro e w1 ⟨rfl, hF1, hb1⟩
  obtain ⟨g, hg⟩ : ∃ g, g = w.heap.size := ⟨_, rfl⟩
  rw [← hg]
  have hF1' : FeAt w.heap.size w1 g 2 (.slice none 0 0) [] := by rw [hg]; exact hF1
  have HB1 := Lib.hid hb1
  have HF1 := Lib.hid hF1'
  have HC := Lib.hid (read_ok w.heap.size g 2 _ [] w1 hF1' (by simp))
  clear hF1 hb1 hF1' hg
  go_wp2_with fail
  refine HC.out.mono ?_
  rintro e w2 ⟨rfl, v2, hF2, hk2, ho2⟩
  have HB2 := Lib.hid (below_kb HB1.out hk2 (fun b hb => (HF1.out.own_lt b hb).1))
  have HF2 := Lib.hid hF2
  have HA := Lib.hid (add_any w.heap.size g 2 v2 _ 1 w2 hF2 ⟨by simp [rds], by simp [rds]⟩ (by omega) (by omega))
  clear hF2 hk2 ho2
  go_wp2_with fail
  refine HA.out.mono ?_
  rintro e w3 ⟨rfl, us3, hr3, hl3, hF3, hk3, ho3⟩
  obtain ⟨v3, rfl⟩ := one_of_rds (r := ⟨[1], 0⟩) (by rw [hr3]; simp [rds, addR])
  have HB3 := Lib.hid (below_kb HB2.out hk3 (fun b hb => (HF2.out.own_lt b hb).1))
  have HF3 := Lib.hid hF3
  have HA3 := Lib.hid (add_any w.heap.size g 2 v2 _ 2 w3 hF3 ⟨by simp [rds], by simp [rds]⟩ (by omega) (by omega))
  clear hF3 hk3 ho3 hr3 hl3
  go_wp2_with fail
  refine HA3.out.mono ?_
  rintro e w4 ⟨rfl, us4, hr4, hl4, hF4, hk4, ho4⟩
  obtain ⟨v4, rfl⟩ := one_of_rds (r := ⟨[1, 2], 0⟩) (by rw [hr4]; simp [rds, addR])
  have HB4 := Lib.hid (below_kb HB3.out hk4 (fun b hb => (HF3.out.own_lt b hb).1))
  have HF4 := Lib.hid hF4
  have HA4 := Lib.hid (add_any w.heap.size g 2 v2 _ 3 w4 hF4 ⟨by simp [rds], by simp [rds]⟩ (by omega) (by omega))
  clear hF4 hk4 ho4 hr4 hl4
  go_wp2_with fail
  refine HA4.out.mono ?_
  rintro e w5 ⟨rfl, us5, hr5, hl5, hF5, hk5, ho5⟩
  obtain ⟨v5, rfl⟩ := one_of_rds (r := ⟨[2, 3], 1⟩) (by rw [hr5]; simp [rds, addR])
  have HB5 := Lib.hid (below_kb HB4.out hk5 (fun b hb => (HF4.out.own_lt b hb).1))
  have HF5 := Lib.hid hF5
  have hp := poll_ok w.heap.size g 2 v2 _ w5 0 (v5, ⟨[2, 3], 1⟩) hF5 rfl (by simp)
  have HP : Hid (Calls Try.prog 10 #[.pointer (some ⟨g, 0, none⟩), .int .i64 0] w5 fun e w' => PollPost w.heap.size g 2 v2 [(v5, ⟨[2, 3], 1⟩)] 0 (v5, ⟨[2, 3], 1⟩) w5 e w') := Lib.hid hp
  clear hF5 hk5 ho5 hr5 hl5 hp
  go_wp2_with fail
  refine HP.out.mono ?_
  rintro e w6 ⟨rfl, hL, hF6, hk6, ho6⟩
  have HB6 := Lib.hid (below_kb HB5.out hk6 (fun b hb => (HF5.out.own_lt b hb).1))
  obtain ⟨A, cap, hv, hc, hx⟩ := hL
  simp only at hv
  subst hv
  obtain ⟨b, o, rfl, hlt, h0⟩ := hx 0 2 rfl
  unfold IntAt at h0
  simp only [Nat.zero_mul, Nat.add_zero] at h0
  clear hF6 hk6 ho6 hx hc
  simp only [List.length_cons, List.length_nil] at *
  go_wp2_with fail
  go_ret
  exact ⟨rfl, HB6.out⟩
end Go.Proofs.Ytkcgpjlakhhggaa
