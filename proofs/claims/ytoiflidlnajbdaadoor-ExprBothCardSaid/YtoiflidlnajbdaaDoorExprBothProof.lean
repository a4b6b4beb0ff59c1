/- Proved: for any two texts and any variables the law ExprBoth returns true: of texts that have numbers as their values, the sum in brackets has the sum, and what compares them the truth; the texts and the variables are unchanged. Conditions: the listed package-level variables hold what the program's own text lays (the card ties them). -/
import Derived.Test.YtoiflidlnajbdaaDoorRows
import Derived.Test.YtoiflidlnajbdaaDoorCards
import Derived.Test.YtoiflidlnajbdaaDoorTie
import Derived.Test.YtoiflidlnajbdaaDoorZlaid
import Derived.Test.YtoiflidlnajbdaaDoorZarg
import Derived.Test.YtoiflidlnajbdaaDoorEnarg
import Derived.Test.YtoiflidlnajbdaaDoorElaw4e
import Derived.Test.YtoiflidlnajbdaaDoorElaw4k
import Derived.Test.YtoiflidlnajbdaaDoorElaw4g
import Derived.Carry
import Derived.ChangeSame
import Derived.ChangeVars
import Derived.JoinedOf
import Derived.SevenTiedAt
import Derived.ChangeMaps5
namespace Go.Proofs.YtoiflidlnajbdaaDoor.exprBoth
open Go.ChangeShapes Go.WideShapes Go.ChangeAt Go.RowKit
open Go.ChangeMaps (open_string shut_string)
set_option linter.unusedVariables false

theorem laidOut : laidOutB Tryd.prog = true := by kernel_rfl
theorem law_any (a b : ByteArray) (eA : Option Addr) (ecap : Nat) (env : List Int) (w : World) (hL : Laid w) (ha : a.size ≤ 9223372036854775807) (hb : b.size ≤ 9223372036854775807) (hE : NumsAt w (.slice eA env.length ecap) env) (hef : ∀ x ∈ env, F64 x) (hel : Short env.length) :
    Calls Tryd.prog 6 #[.string a, .string b, .slice eA env.length ecap] w fun e w' => e = .returned (.bool true) ∧ Below w.heap.size w w' := by
  by_cases h1 : 90 < a.size
  · exact law4_far a b eA env.length ecap w hL ha hb hel (.inl h1)
  · by_cases h2 : 90 < b.size
    · exact law4_far a b eA env.length ecap w hL ha hb hel (.inr (.inl ⟨by omega, h2⟩))
    · by_cases h3 : 100 < env.length
      · exact law4_far a b eA env.length ecap w hL ha hb hel (.inr (.inr ⟨by omega, by omega, h3⟩))
      · have la : a.data.toList.length ≤ 90 := by rw [← Lib.size_eq]; omega
        have lb : b.data.toList.length ≤ 90 := by rw [← Lib.size_eq]; omega
        cases hA : worthOf a.data.toList env with
        | none => exact law4_e a b eA ecap env w hL (by omega) (by omega) (by omega) hE hef hA
        | some x =>
          obtain ⟨k, n⟩ := x
          cases hB : worthOf b.data.toList env with
          | none => exact law4_f a b eA ecap env w hL (by omega) (by omega) (by omega) hE hef k n hA hB
          | some y =>
            obtain ⟨k2, n2⟩ := y
            obtain ⟨p, pa, ap, mp⟩ := worth_some hA
            obtain ⟨q, pb, aq, mq⟩ := worth_some hB
            have hpl := (parse_toks pa).1
            have hql := (parse_toks pb).1
            by_cases c1 : k = 1
            · by_cases c2 : k2 = 1
              · by_cases c3 : 99 < p.length + q.length
                · exact law4_k a b eA ecap env w hL (by omega) (by omega) (by omega) hE hef p q k n k2 n2 hA hB pa pb hpl hql (.inr (.inr ⟨c1, c2, c3⟩))
                · subst c1
                  subst c2
                  exact law4_g a b eA ecap env w hL (by omega) (by omega) (by omega) hE hef p q n n2 hA hB pa pb (by omega) (worth_both 43 3 (.inl ⟨rfl, rfl⟩) la lb pa pb ap aq mp mq (by omega)) (worth_both 60 8 (.inr ⟨rfl, rfl⟩) la lb pa pb ap aq mp mq (by omega))
              · exact law4_k a b eA ecap env w hL (by omega) (by omega) (by omega) hE hef p q k n k2 n2 hA hB pa pb hpl hql (.inr (.inl ⟨c1, c2⟩))
            · exact law4_k a b eA ecap env w hL (by omega) (by omega) (by omega) hE hef p q k n k2 n2 hA hB pa pb hpl hql (.inl c1)

set_option maxRecDepth 100000 in
theorem lifted (os : Os) (started : os.Started) (H : Type) (enc : TypeId × Value → H) :
    ReturnsInHanded {} Tryd.checked os 6 .any (fun w args => (Rows.exprBothSpec.pre enc Tryd.prog Tryd.f6 [] false w args ∧ laidMetH Tryd.prog laid7 w) ∧ sizedMet enc Tryd.prog Tryd.f6 (OpenSpec.ofChange Rows.exprBothSpec) false w args)
      (Rows.exprBothSpec.post enc Tryd.prog Tryd.f6 false true false false) := by
  refine returnsInHanded_of_change_and (C := Tryd.checked) (X := fun w _ => laidMetH Tryd.prog laid7 w) (fun _ _ _ hh h => h.of_heap hh) own started (by kernel_rfl) Tryd.func6
    (ChangeSpec.witness_shaped (enc := enc) (C := Tryd.checked) (os := os) (X := fun w _ => laidMetH Tryd.prog laid7 w) false (World.doorLaid Tryd.prog 67 os) #[.string ⟨#[]⟩, .string ⟨#[]⟩, .slice none 0 0] 8 rfl (World.shaped_of_RefB (by kernel_rfl) (by kernel_rfl)) (by kernel_rfl) (by kernel_rfl) (by kernel_rfl) (door_met os _)) ?_
  intro W base args ds gs before hval0 hW _ _ hL _
  have hval : ∀ (j : Nat) t v, Tryd.f6.params[j]? = some t → args[j]? = some v → Value.okWide Tryd.prog W .any base t v := hval0
  have hW' := hW
  obtain ⟨p, q, hA0, hV, rfl, hfz, hnd⟩ := hW
  have hA : DataW.TrodAll enc Tryd.prog W 0 (fun _ => true) true Tryd.f6.params.toList args.toList ds p := hA0
  rw [Tryd.params6] at hA hval
  obtain ⟨v0, v1, v2, d0, d1, d2, p0, p1, p2, rfl, rfl, rfl, h0, h1, h2⟩ := trodAll_three hA
  obtain ⟨rfl, rfl⟩ := trodVars_none hV
  have hlt : ∀ x ∈ p0 ++ p1 ++ p2, x.block < W.heap.size := fun x hx => hW'.lt x (by simpa using hx)
  obtain ⟨s, rfl, rfl, rfl, ws⟩ := open_string Tryd.underlying9 (hval 0 9 v0 rfl rfl) h0
  obtain ⟨s2, rfl, rfl, rfl, ws2⟩ := open_string Tryd.underlying9 (hval 1 9 v1 rfl rfl) h1
  obtain ⟨eA, ecap, env, rfl, hE, hef, hel⟩ := nums_of_arg (hval 2 32 v2 rfl rfl) h2
  clear hA0 hval0
  refine (law_any s s2 eA ecap env W (laid_of_row hL) (by unfold maxLen at ws; omega) (by unfold maxLen at ws2; omega) hE hef hel).mono fun e W' ⟨he, hb⟩ => ?_
  subst he
  have e1 : Rows.exprBothSpec.fn H ([.lit (.string s.data.toList), .lit (.string s2.data.toList), d2] ++ []) = { results := [.lit (.bool true)], args := [.lit (.string s.data.toList), .lit (.string s2.data.toList), d2] } := by simp [Rows.exprBothSpec]
  refine ⟨_, rfl, _, _, _, [], [] ++ ([] ++ p2), [], hW', ?_, ?_, ?_, hb.frame _, fun h => by cases h⟩
  · rw [e1]; exact trodAll_mk1 (shut_bool Tryd.underlying4 true)
  · rw [e1]; exact trodAll_mk3 (shut_string Tryd.underlying9 ws) (shut_string Tryd.underlying9 ws2) (Below.trod laidOut (by kernel_rfl) (of_decide_eq_true (by kernel_rfl)) h2 hb (fun x hx => hlt x (by simp [hx])))
  · rw [e1]; rfl

theorem row_holds : Rows.ExprBothSaid :=
  OpenClaim.holds_of_wide 6 Tryd.f6 rfl rfl rfl rfl rfl rfl rfl ⟨rfl, rfl, rfl, rfl, rfl⟩ rfl rfl rfl rfl rfl (by kernel_rfl) Tryd.func6 (by kernel_rfl)
    (of_decide_eq_true (by kernel_rfl)) (by unfold Func.isWrapper; first | (rw [if_pos (by decide +kernel)]; kernel_rfl) | (rw [if_neg (by decide +kernel)]; exact ⟨rfl, rfl⟩))
    (fun os started H enc _ => lifted os started H enc)

theorem card_holds : Rows.ExprBothCardSaid :=
  Claim7.holds_tied_plain_at .later [] [.data, .data, .data, .sentinel, .sentinel, .data] true (true, "d357552e861d630d08f455044641d98e646b2d8d10cdf8c83d26a1c6fd6b1710") true
    row_holds (fun _ h => by cases h) (by kernel_rfl) (fun _ h => by cases h) exprBoth_row_tie rfl ⟨rfl, rfl⟩ (by kernel_rfl) rfl
    (fun f fn hf hfn => by
      obtain rfl : f = 6 := Option.some.inj ((show Tryd.prog.funcNamed Rows.exprBothRow.func = some 6 by kernel_rfl).symm.trans hf) |>.symm
      obtain rfl : fn = Tryd.f6 := (Option.some.inj (Tryd.func6.symm.trans hfn)).symm
      exact ⟨by kernel_rfl, fun j t ht => by
        rw [Tryd.params6] at ht
        have hm : t ∈ [9, 9, 32] := by simpa using Array.mem_of_getElem? ht
        have hall : ([9, 9, 32].all fun u => !Tryd.prog.wantsStandIn u) = true := by kernel_rfl
        exact (show Tryd.prog.wantsStandIn t = false by simpa using List.all_eq_true.1 hall t hm)⟩)
    (by kernel_rfl)
end Go.Proofs.YtoiflidlnajbdaaDoor.exprBoth

namespace Go.Proofs.YtoiflidlnajbdaaDoor
theorem exprBoth_proved : Rows.ExprBothCardSaid := exprBoth.card_holds
#print axioms exprBoth_proved
end Go.Proofs.YtoiflidlnajbdaaDoor
