/- pick, and the head of layer 17's statements (spinetlaw17.up): it holds. -/
import Derived.Test.YtlfiijlfokckkaaYtic
namespace Go.Proofs.Ytlfiijlfokckkaa
open Go.ChangeShapes Go.WideShapes Go.ChangeAt Go.RowKit Go.Maps
set_option linter.unusedVariables false

/-- one of n -/
def pickF (c n : Int) : Int := (if c < 0 then -(c + 1) else c) % n
theorem pick_any (c n : Int) (w : World) (hc : F64 c) (h0 : 0 < n) (hn : n ≤ 1000000) : Calls Try.prog 7 #[.int .i64 c, .int .i64 n] w fun e w' => w' = w ∧ e = .returned (.int .i64 (pickF c n)) := by
  have hz : ¬ n = 0 := by omega
  have hz2 : (n == 0) = false := beq_false_of_ne hz
  unfold F64 at hc
  by_cases h : c < 0
  · obtain ⟨d, hd⟩ : ∃ d, d = -(c + 1) := ⟨_, rfl⟩
    have w1 : IntKind.i64.wrap (c + 1) = c + 1 := by rw [IntKind.wrap_i64]; omega
    have w2 : IntKind.i64.wrap (-(c + 1)) = d := by rw [IntKind.wrap_i64]; omega
    have w2' : IntKind.i64.wrap (-1 + -c) = d := by rw [IntKind.wrap_i64]; omega
    have w3 : Int.tmod d n = d % n := Int.tmod_eq_emod_of_nonneg (by omega)
    have h4 := Int.emod_nonneg d hz
    have h5 := Int.emod_lt_of_pos d h0
    have w4 : IntKind.i64.wrap (d % n) = d % n := by rw [IntKind.wrap_i64]; omega
    have HR : Hid (pickF c n = d % n) := Lib.hid (by unfold pickF; rw [if_pos h, hd])
    clear hd
    go_enter Try.func7, Try.ntmps7
    go_wp2_with fail
    go_ret
    exact ⟨rfl, by rw [HR.out] <;> rfl⟩
  · have w3 : Int.tmod c n = c % n := Int.tmod_eq_emod_of_nonneg (by omega)
    have h4 := Int.emod_nonneg c hz
    have h5 := Int.emod_lt_of_pos c h0
    have w4 : IntKind.i64.wrap (c % n) = c % n := by rw [IntKind.wrap_i64]; omega
    have HR : Hid (pickF c n = c % n) := Lib.hid (by unfold pickF; rw [if_neg h])
    go_enter Try.func7, Try.ntmps7
    go_wp2_with fail
    go_ret
    exact ⟨rfl, by rw [HR.out] <;> rfl⟩
theorem eql_codes (w : World) : (binOp .eql 33 (errV 5) (errV 5)).run Try.prog w = .ok (.bool true) w ∧ (binOp .eql 33 (errV 1) (errV 1)).run Try.prog w = .ok (.bool true) w ∧ (binOp .eql 33 (errV 6) (errV 6)).run Try.prog w = .ok (.bool true) w := ⟨by kernel_rfl, by kernel_rfl, by kernel_rfl⟩
theorem neq_codes (w : World) : (binOp .neq 33 (errV 5) (errV 5)).run Try.prog w = .ok (.bool false) w ∧ (binOp .neq 33 (errV 1) (errV 1)).run Try.prog w = .ok (.bool false) w ∧ (binOp .neq 33 (errV 6) (errV 6)).run Try.prog w = .ok (.bool false) w := ⟨by kernel_rfl, by kernel_rfl, by kernel_rfl⟩
theorem eql_nil_nil (w : World) : (binOp .eql 33 .nilIface .nilIface).run Try.prog w = .ok (.bool true) w := by kernel_rfl
theorem neq_nil_nil (w : World) : (binOp .neq 33 .nilIface .nilIface).run Try.prog w = .ok (.bool false) w := by kernel_rfl
/-- an old world stays so where all that changes is new -/
theorem below_kb {O : Nat → Prop} {a w w' : World} (h : Below a.heap.size a w) (hk : KB O w w') (ho : ∀ b, O b → a.heap.size ≤ b) : Below a.heap.size a w' :=
  ⟨hk.os.trans h.os, hk.tape.trans h.tape, hk.output.trans h.output, Nat.le_trans h.size hk.size, fun k hlt => (hk.block k (Nat.lt_of_lt_of_le hlt h.size) (fun e => by have := ho k e; omega)).trans (h.block k hlt)⟩
theorem sound_nil : Sound 0 [] := ⟨List.nodup_nil, fun _ h => (by cases h), fun _ h => (by cases h), by simp, Int.le_refl _, by omega⟩
theorem Sound.snoc {c : Int} {S : List Tm} {t : Tm} (h : Sound c S) (hn : hasId S t.id = false) (h1 : ¬ t.tick ≤ c) (h2 : ¬ 1073741824 < t.tick) (hid : F64 t.id) (hf : S.length < 50) : Sound c (S ++ [t]) := by
  refine ⟨?_, fun s hs => ?_, fun s hs => ?_, by rw [List.length_append]; simp; omega, h.now0, h.now1⟩
  · rw [List.map_append, List.nodup_append]
    refine ⟨h.nodup, by simp, fun a ha b hb hab => ?_⟩
    simp at hb
    obtain ⟨s, hs, rfl⟩ := List.mem_map.1 ha
    unfold hasId at hn
    rw [List.any_eq_false] at hn
    exact hn s hs (by simp [hab, hb])
  · rcases List.mem_append.1 hs with hs | hs
    · exact h.late s hs
    · rw [List.mem_singleton.1 hs]; omega
  · rcases List.mem_append.1 hs with hs | hs
    · exact h.ids s hs
    · rw [List.mem_singleton.1 hs]; exact hid
set_option maxHeartbeats 4000000 in
set_option maxRecDepth 100000 in
theorem up_any (w : World) : Calls Try.prog 5 #[] w fun e w' => e = .returned (.bool true) ∧ Below w.heap.size w w' := by
  have e5 := fun W => (eql_codes W).1
  have en := eql_nil_nil
  have HN := Lib.hid (new_any w)
  go_enter Try.func5, Try.ntmps5
  go_wp2_with fail
  refine HN.out.mono ?_
  rintro e w1 ⟨hb1, hs1, rfl, hw1⟩
  obtain ⟨g, hg⟩ : ∃ g, g = w.heap.size + 1 := ⟨_, rfl⟩
  obtain ⟨m, hm⟩ : ∃ m, m = w.heap.size := ⟨_, rfl⟩
  rw [← hg]
  rw [← hg] at hw1
  have HB1 := Lib.hid hb1
  have hw1' : WhAt w.heap.size w1 g m (fun _ => .slice none 0 0) 0 [] := by rw [hm]; exact hw1
  have HA := Lib.hid (set_ok w.heap.size g m _ 0 1 5 7 [] w1 hw1' (by unfold F64; omega) rfl (by omega) (by omega) (by omega) (by simp))
  have HO1 := Lib.hid (fun b hb => (hw1'.own_lt b hb).1)
  have HS1 := Lib.hid (sound_nil.snoc (t := ⟨1, 5, 7⟩) rfl (by simp) (by simp) (by simp only; unfold F64; omega) (by simp))
  clear hb1 hs1 hw1 hg hm hw1'
  go_wp2_with fail
  refine HA.out.mono ?_
  rintro e w2 ⟨rfl, v2, hk2, hw2, ho2⟩
  have HB2 := Lib.hid (below_kb HB1.out hk2 HO1.out)
  have HA2 := Lib.hid (set_ok w.heap.size g m _ 0 2 4 8 _ w2 hw2 (by unfold F64; omega) rfl (by omega) (by omega) (by omega) (by simp))
  have HO2 := Lib.hid (fun b hb => (hw2.own_lt b hb).1)
  have HS2 := Lib.hid (HS1.out.snoc (t := ⟨2, 4, 8⟩) rfl (by simp) (by simp) (by simp only; unfold F64; omega) (by simp))
  clear hk2 hw2 ho2 HA
  go_wp2_with fail
  refine HA2.out.mono ?_
  rintro e w3 ⟨rfl, v3, hk3, hw3, ho3⟩
  have HB3 := Lib.hid (below_kb HB2.out hk3 HO2.out)
  have HA3 := Lib.hid (set_twice w.heap.size g m _ 0 1 6 9 _ w3 hw3 (by unfold F64; omega) rfl)
  have HT := Lib.hid (tick_ok w.heap.size g m _ 0 5 _ w3 hw3 HS2.out (by omega) (by omega))
  have HO3 := Lib.hid (fun b hb => (hw3.own_lt b hb).1)
  clear hk3 hw3 ho3 HA2
  go_wp2_with fail
  refine HA3.out.mono ?_
  rintro e w4 ⟨rfl, rfl⟩
  go_wp2_with fail
  refine HT.out.mono ?_
  rintro e w5 ⟨v, R, v5, rfl, hR, hown, hk5, hw5, ho5⟩
  have hRe : R = [⟨2, 4, 8⟩, ⟨1, 5, 7⟩] := due_one _ _ hR.1 (by
    intro i j hij hj hi
    match i, j, hij, hj, hi with
    | 0, 1, _, _, _ => show (4 : Int) ≤ 5; decide
    | 0, j + 2, _, hj, _ => simp at hj; omega
    | i + 1, j, hij, hj, _ => simp at hj; omega) (fun x => by
    rw [hR.2 x]
    by_cases h4 : x = 4
    · subst h4; rfl
    · by_cases h5 : x = 5
      · subst h5; rfl
      · have h4' : ¬ 4 = x := Ne.symm h4
        have h5' : ¬ 5 = x := Ne.symm h5
        simp [atB, lateB, h4', h5'])
  subst hRe
  have HB5 := Lib.hid (below_kb HB3.out hk5 HO3.out)
  obtain ⟨A0, cap, rfl, hcap, hcells⟩ := hown.tms
  obtain ⟨b, o, rfl, hbl, ⟨c0, c1, c2⟩⟩ := hcells 0 _ rfl
  obtain ⟨b', o', hbo, hbl', ⟨d0, d1, d2⟩⟩ := hcells 1 _ rfl
  injection hbo with hbo
  injection hbo with hb1 hb2
  subst hb1; subst hb2
  simp only [Nat.zero_mul, Nat.add_zero, Nat.one_mul, Nat.add_assoc, Nat.reduceAdd] at c0 c1 c2 d0 d1 d2
  have HNOW := Lib.hid (now_any w.heap.size g m v5 5 _ w5 hw5)
  clear hcells hR hown hk5 hw5 ho5 hbl hbl' HT HA3
  go_wp2_with (first | (go_at_call 11; refine HNOW.out.mono ?_; rintro e w6 ⟨rfl, rfl⟩) | fail)
  go_ret
  exact ⟨rfl, HB5.out⟩
end Go.Proofs.Ytlfiijlfokckkaa
