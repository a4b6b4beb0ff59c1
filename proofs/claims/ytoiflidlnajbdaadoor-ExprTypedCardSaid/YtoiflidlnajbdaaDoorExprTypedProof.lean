/- Proved: for any tokens and any variables the law ExprTyped returns true: what has a type, with as many variables as there are, has a value of it, or is divided by 0; what has none has no value; the tokens and the variables are unchanged. Conditions: the listed package-level variables hold what the program's own text lays (the card ties them). -/
import Derived.Test.YtoiflidlnajbdaaDoorRows
import Derived.Test.YtoiflidlnajbdaaDoorCards
import Derived.Test.YtoiflidlnajbdaaDoorTie
import Derived.Test.YtoiflidlnajbdaaDoorZlaid
import Derived.Test.YtoiflidlnajbdaaDoorZarg
import Derived.Test.YtoiflidlnajbdaaDoorEnarg
import Derived.Test.YtoiflidlnajbdaaDoorElaw3
import Derived.Carry
import Derived.ChangeSame
import Derived.ChangeVars
import Derived.JoinedOf
import Derived.SevenTiedAt
namespace Go.Proofs.YtoiflidlnajbdaaDoor.exprTyped
open Go.ChangeShapes Go.WideShapes Go.ChangeAt Go.RowKit
set_option linter.unusedVariables false

theorem laidOut : laidOutB Tryd.prog = true := by kernel_rfl
theorem law_any (A eA : Option Addr) (cap ecap : Nat) (ts : List Tk) (env : List Int) (w : World) (hL : Laid w) (hv : ToksAt w (.slice A ts.length cap) ts) (hs : ∀ t ∈ ts, Small t.2.1) (hl : Short ts.length) (hE : NumsAt w (.slice eA env.length ecap) env) (hef : ∀ x ∈ env, F64 x) (hel : Short env.length) :
    Calls Tryd.prog 5 #[.slice A ts.length cap, .slice eA env.length ecap] w fun e w' => e = .returned (.bool true) ∧ Below w.heap.size w w' := by
  by_cases h : 300 < ts.length
  · exact law3_far A eA ts.length cap env.length ecap w hL hl hel (.inl h)
  · by_cases h2 : 100 < env.length
    · exact law3_far A eA ts.length cap env.length ecap w hL hl hel (.inr ⟨by omega, h2⟩)
    · exact law3_near A eA cap ecap ts env w hL (by omega) (by omega) hv hE hef hs

set_option maxRecDepth 100000 in
theorem lifted (os : Os) (started : os.Started) (H : Type) (enc : TypeId × Value → H) :
    ReturnsInHanded {} Tryd.checked os 5 .any (fun w args => (Rows.exprTypedSpec.pre enc Tryd.prog Tryd.f5 [] false w args ∧ laidMetH Tryd.prog laid7 w) ∧ sizedMet enc Tryd.prog Tryd.f5 (OpenSpec.ofChange Rows.exprTypedSpec) false w args)
      (Rows.exprTypedSpec.post enc Tryd.prog Tryd.f5 false true false false) := by
  refine returnsInHanded_of_change_and (C := Tryd.checked) (X := fun w _ => laidMetH Tryd.prog laid7 w) (fun _ _ _ hh h => h.of_heap hh) own started (by kernel_rfl) Tryd.func5
    (ChangeSpec.witness_shaped (enc := enc) (C := Tryd.checked) (os := os) (X := fun w _ => laidMetH Tryd.prog laid7 w) false (World.doorLaid Tryd.prog 67 os) #[.slice none 0 0, .slice none 0 0] 8 rfl (World.shaped_of_RefB (by kernel_rfl) (by kernel_rfl)) (by kernel_rfl) (by kernel_rfl) (by kernel_rfl) (door_met os _)) ?_
  intro W base args ds gs before hval0 hW _ _ hL _
  have hval : ∀ (j : Nat) t v, Tryd.f5.params[j]? = some t → args[j]? = some v → Value.okWide Tryd.prog W .any base t v := hval0
  have hW' := hW
  obtain ⟨p, q, hA0, hV, rfl, hfz, hnd⟩ := hW
  have hA : DataW.TrodAll enc Tryd.prog W 0 (fun _ => true) true Tryd.f5.params.toList args.toList ds p := hA0
  rw [Tryd.params5] at hA hval
  obtain ⟨v0, v1, d0, d1, p0, p1, rfl, rfl, rfl, h0, h1⟩ := trodAll_two hA
  obtain ⟨rfl, rfl⟩ := trodVars_none hV
  have hlt : ∀ x ∈ p0 ++ p1, x.block < W.heap.size := fun x hx => hW'.lt x (by simpa using hx)
  obtain ⟨A, cap, ts, rfl, hT, hs, hn⟩ := toks_of_arg (hval 0 22 v0 rfl rfl) h0
  obtain ⟨eA, ecap, env, rfl, hE, hef, hel⟩ := nums_of_arg (hval 1 32 v1 rfl rfl) h1
  clear hA0 hval0
  refine (law_any A eA cap ecap ts env W (laid_of_row hL) hT hs hn hE hef hel).mono fun e W' ⟨he, hb⟩ => ?_
  subst he
  have e1 : Rows.exprTypedSpec.fn H ([d0, d1] ++ []) = { results := [.lit (.bool true)], args := [d0, d1] } := by simp [Rows.exprTypedSpec]
  refine ⟨_, rfl, _, _, _, [], p0 ++ p1, [], hW', ?_, ?_, ?_, hb.frame _, fun h => by cases h⟩
  · rw [e1]; exact trodAll_mk1 (shut_bool Tryd.underlying4 true)
  · rw [e1]; exact trodAll_mk2 (Below.trod laidOut (by kernel_rfl) (of_decide_eq_true (by kernel_rfl)) h0 hb (fun x hx => hlt x (by simp [hx]))) (Below.trod laidOut (by kernel_rfl) (of_decide_eq_true (by kernel_rfl)) h1 hb (fun x hx => hlt x (by simp [hx])))
  · rw [e1]; rfl

theorem row_holds : Rows.ExprTypedSaid :=
  OpenClaim.holds_of_wide 5 Tryd.f5 rfl rfl rfl rfl rfl rfl rfl ⟨rfl, rfl, rfl, rfl, rfl⟩ rfl rfl rfl rfl rfl (by kernel_rfl) Tryd.func5 (by kernel_rfl)
    (of_decide_eq_true (by kernel_rfl)) (by unfold Func.isWrapper; first | (rw [if_pos (by decide +kernel)]; kernel_rfl) | (rw [if_neg (by decide +kernel)]; exact ⟨rfl, rfl⟩))
    (fun os started H enc _ => lifted os started H enc)

theorem card_holds : Rows.ExprTypedCardSaid :=
  Claim7.holds_tied_plain_at .later [] [.data, .data, .data, .sentinel, .sentinel, .data] true (true, "d357552e861d630d08f455044641d98e646b2d8d10cdf8c83d26a1c6fd6b1710") true
    row_holds (fun _ h => by cases h) (by kernel_rfl) (fun _ h => by cases h) exprTyped_row_tie rfl ⟨rfl, rfl⟩ (by kernel_rfl) rfl
    (fun f fn hf hfn => by
      obtain rfl : f = 5 := Option.some.inj ((show Tryd.prog.funcNamed Rows.exprTypedRow.func = some 5 by kernel_rfl).symm.trans hf) |>.symm
      obtain rfl : fn = Tryd.f5 := (Option.some.inj (Tryd.func5.symm.trans hfn)).symm
      exact ⟨by kernel_rfl, fun j t ht => by
        rw [Tryd.params5] at ht
        have hm : t ∈ [22, 32] := by simpa using Array.mem_of_getElem? ht
        have hall : ([22, 32].all fun u => !Tryd.prog.wantsStandIn u) = true := by kernel_rfl
        exact (show Tryd.prog.wantsStandIn t = false by simpa using List.all_eq_true.1 hall t hm)⟩)
    (by kernel_rfl)
end Go.Proofs.YtoiflidlnajbdaaDoor.exprTyped

namespace Go.Proofs.YtoiflidlnajbdaaDoor
theorem exprTyped_proved : Rows.ExprTypedCardSaid := exprTyped.card_holds
#print axioms exprTyped_proved
end Go.Proofs.YtoiflidlnajbdaaDoor
