/- Proved: for any chart, any set, any variables and any event the law ChooseGathers returns true: in the tree of a chart that is not too large, with at most 40 variables, choose.Gather tells the same transitions, in the same order, and as many mishaps as the document's own answer; all arguments are unchanged. Conditions: the listed package-level variables hold what the program's own text lays (the card ties them). -/
import Derived.Test.YtfmlicpholjjhaaGreatDoorRows
import Derived.Test.YtfmlicpholjjhaaGreatDoorCards
import Derived.Test.YtfmlicpholjjhaaGreatDoorTie
import Derived.Test.YtfmlicpholjjhaaGreatDoorZlaid
import Derived.Test.YtfmlicpholjjhaaGreatDoorCarg
import Derived.Test.YtfmlicpholjjhaaGreatDoorHarg
import Derived.Test.YtfmlicpholjjhaaGreatDoorHlaw1
import Derived.Carry
import Derived.ChangeSame
import Derived.ChangeVars
import Derived.JoinedOf
import Derived.SevenTiedAt
namespace Go.Proofs.YtfmlicpholjjhaaGreatDoor.chooseGathers
open Go.ChangeShapes Go.WideShapes Go.ChangeAt Go.RowKit
set_option linter.unusedVariables false

theorem laidOut : laidOutB Tryz.prog = true := by kernel_rfl

set_option maxRecDepth 100000 in
theorem lifted (os : Os) (started : os.Started) (H : Type) (enc : TypeId × Value → H) :
    ReturnsInHanded {} Tryz.checked os 4 .any (fun w args => (Rows.chooseGathersSpec.pre enc Tryz.prog Tryz.f4 [] false w args ∧ laidMetH Tryz.prog laid7 w) ∧ sizedMet enc Tryz.prog Tryz.f4 (OpenSpec.ofChange Rows.chooseGathersSpec) false w args)
      (Rows.chooseGathersSpec.post enc Tryz.prog Tryz.f4 false true false false) := by
  refine returnsInHanded_of_change_and (C := Tryz.checked) (X := fun w _ => laidMetH Tryz.prog laid7 w) (fun _ _ _ hh h => h.of_heap hh) own started (by kernel_rfl) Tryz.func4
    (ChangeSpec.witness_shaped (enc := enc) (C := Tryz.checked) (os := os) (X := fun w _ => laidMetH Tryz.prog laid7 w) false (World.doorLaid Tryz.prog 67 os) #[.agg #[.int .i64 0, .slice none 0 0, .slice none 0 0], .int .u32 0, .slice none 0 0, .int .i64 0] 8 rfl (World.shaped_of_RefB (by kernel_rfl) (by kernel_rfl)) (by kernel_rfl) (by kernel_rfl) (by kernel_rfl) (door_met os _)) ?_
  intro W base args ds gs before hval0 hW _ _ hL _
  have hval : ∀ (j : Nat) t v, Tryz.f4.params[j]? = some t → args[j]? = some v → Value.okWide Tryz.prog W .any base t v := hval0
  have hW' := hW
  obtain ⟨p, q, hA0, hV, rfl, hfz, hnd⟩ := hW
  have hA : DataW.TrodAll enc Tryz.prog W 0 (fun _ => true) true Tryz.f4.params.toList args.toList ds p := hA0
  rw [Tryz.params4] at hA hval
  obtain ⟨v0, v1, v2, v3, d0, d1, d2, d3, p0, p1, p2, p3, rfl, rfl, rfl, h0, h1, h2, h3⟩ := trodAll_four hA
  obtain ⟨rfl, rfl⟩ := trodVars_none hV
  have hlt : ∀ x ∈ p0 ++ p1 ++ p2 ++ p3, x.block < W.heap.size := fun x hx => hW'.lt x (by simpa using hx)
  obtain ⟨vs, vt, C, rfl, hC, hS⟩ := chart_of_arg (hval 0 25 v0 rfl rfl) h0
  obtain ⟨n, rfl, hn⟩ := u32_of_arg (hval 1 42 v1 rfl rfl) h1
  obtain ⟨env, hE, hef, hes⟩ := vars_of_arg (hval 2 26 v2 rfl rfl) h2
  obtain ⟨x, rfl⟩ := int_of_arg (hval 3 3 v3 rfl rfl)
  clear hA0 hval0
  refine (hlaw2_any vs vt _ C n env x W (laid_of_row hL) hC hS hn hE hes hef).mono fun e W' ⟨he, hb⟩ => ?_
  subst he
  have e1 : Rows.chooseGathersSpec.fn H ([d0, d1, d2, d3] ++ []) = { results := [.lit (.bool true)], args := [d0, d1, d2, d3] } := by simp [Rows.chooseGathersSpec]
  refine ⟨_, rfl, _, _, _, [], p0 ++ (p1 ++ (p2 ++ p3)), [], hW', ?_, ?_, ?_, hb.frame _, fun h => by cases h⟩
  · rw [e1]; exact trodAll_mk1 (shut_bool Tryz.underlying4 true)
  · rw [e1]; exact trodAll_mk4 (Below.trod laidOut (by kernel_rfl) (of_decide_eq_true (by kernel_rfl)) h0 hb (fun x hx => hlt x (by simp [hx]))) (Below.trod laidOut (by kernel_rfl) (of_decide_eq_true (by kernel_rfl)) h1 hb (fun x hx => hlt x (by simp [hx]))) (Below.trod laidOut (by kernel_rfl) (of_decide_eq_true (by kernel_rfl)) h2 hb (fun x hx => hlt x (by simp [hx]))) (Below.trod laidOut (by kernel_rfl) (of_decide_eq_true (by kernel_rfl)) h3 hb (fun x hx => hlt x (by simp [hx])))
  · rw [e1]; rfl

theorem row_holds : Rows.ChooseGathersSaid :=
  OpenClaim.holds_of_wide 4 Tryz.f4 rfl rfl rfl rfl rfl rfl rfl ⟨rfl, rfl, rfl, rfl, rfl⟩ rfl rfl rfl rfl rfl (by kernel_rfl) Tryz.func4 (by kernel_rfl)
    (of_decide_eq_true (by kernel_rfl)) (by unfold Func.isWrapper; first | (rw [if_pos (by decide +kernel)]; kernel_rfl) | (rw [if_neg (by decide +kernel)]; exact ⟨rfl, rfl⟩))
    (fun os started H enc _ => lifted os started H enc)

theorem card_holds : Rows.ChooseGathersCardSaid :=
  Claim7.holds_tied_plain_at .later [] [.data, .data, .data, .sentinel, .sentinel, .data] true (true, "5d9c993d1a18eadecf2e2d04f48fbadb5c4ddee182edb98cf0b76c2b4222baad") true
    row_holds (fun _ h => by cases h) (by kernel_rfl) (fun _ h => by cases h) chooseGathers_row_tie rfl ⟨rfl, rfl⟩ (by kernel_rfl) rfl
    (fun f fn hf hfn => by
      obtain rfl : f = 4 := Option.some.inj ((show Tryz.prog.funcNamed Rows.chooseGathersRow.func = some 4 by kernel_rfl).symm.trans hf) |>.symm
      obtain rfl : fn = Tryz.f4 := (Option.some.inj (Tryz.func4.symm.trans hfn)).symm
      exact ⟨by kernel_rfl, fun j t ht => by
        rw [Tryz.params4] at ht
        have hm : t ∈ [25, 42, 26, 3] := by simpa using Array.mem_of_getElem? ht
        have hall : ([25, 42, 26, 3].all fun u => !Tryz.prog.wantsStandIn u) = true := by kernel_rfl
        exact (show Tryz.prog.wantsStandIn t = false by simpa using List.all_eq_true.1 hall t hm)⟩)
    (by kernel_rfl)
end Go.Proofs.YtfmlicpholjjhaaGreatDoor.chooseGathers

namespace Go.Proofs.YtfmlicpholjjhaaGreatDoor
theorem chooseGathers_proved : Rows.ChooseGathersCardSaid := chooseGathers.card_holds
#print axioms chooseGathers_proved
end Go.Proofs.YtfmlicpholjjhaaGreatDoor
