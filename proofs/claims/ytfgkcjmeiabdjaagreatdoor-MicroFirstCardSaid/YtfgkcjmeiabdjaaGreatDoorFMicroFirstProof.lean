/- Proved: for any chart the law MicroFirst returns true: in the tree of a chart that is not too large micro.First comes to the same session, and the same goes out, as the document's own first step, and micro.Begin stands at nothing, with a history's set for each state and as many variables as the chart has; the chart is unchanged. Conditions: the listed package-level variables hold what the program's own text lays (the card ties them). -/
import Derived.Test.YtfgkcjmeiabdjaaGreatDoorRows
import Derived.Test.YtfgkcjmeiabdjaaGreatDoorCards
import Derived.Test.YtfgkcjmeiabdjaaGreatDoorTie
import Derived.Test.YtfgkcjmeiabdjaaGreatDoorFZlaid
import Derived.Test.YtfgkcjmeiabdjaaGreatDoorFCarg
import Derived.Test.YtfgkcjmeiabdjaaGreatDoorFIlw1
import Derived.Carry
import Derived.ChangeSame
import Derived.ChangeVars
import Derived.JoinedOf
import Derived.SevenTiedAt
namespace Go.Proofs.YtfgkcjmeiabdjaaGreatDoor.microFirst
open Go.ChangeShapes Go.WideShapes Go.ChangeAt Go.RowKit
set_option linter.unusedVariables false

theorem laidOut:laidOutB Tryz.prog=true:=by kernel_rfl

set_option maxRecDepth 100000 in
theorem lifted (os:Os) (started:os.Started) (H:Type) (enc:TypeId × Value→H) :
    ReturnsInHanded {} Tryz.checked os 3 .any (fun w args=>(Rows.microFirstSpec.pre enc Tryz.prog Tryz.f3 [] false w args∧laidMetH Tryz.prog laid7 w)∧sizedMet enc Tryz.prog Tryz.f3 (OpenSpec.ofChange Rows.microFirstSpec) false w args)
      (Rows.microFirstSpec.post enc Tryz.prog Tryz.f3 false true false false):=by
  refine returnsInHanded_of_change_and (C:=Tryz.checked) (X:=fun w _=>laidMetH Tryz.prog laid7 w) (fun _ _ _ hh h=>h.of_heap hh) own started (by kernel_rfl) Tryz.func3
    (ChangeSpec.witness_shaped (enc:=enc) (C:=Tryz.checked) (os:=os) (X:=fun w _=>laidMetH Tryz.prog laid7 w) false (World.doorLaid Tryz.prog 67 os) #[.agg #[.int .i64 0,.slice none 0 0,.slice none 0 0]] 8 rfl (World.shaped_of_RefB (by kernel_rfl) (by kernel_rfl)) (by kernel_rfl) (by kernel_rfl) (by kernel_rfl) (door_met os _)) ?_
  intro W base args ds gs before hval0 hW _ _ hL _
  have hval:∀ (j:Nat) t v,Tryz.f3.params[j]?=some t→args[j]?=some v→Value.okWide Tryz.prog W .any base t v:=hval0
  have hW':=hW
  obtain ⟨p,q,hA0,hV,rfl,hfz,hnd⟩:=hW
  have hA:DataW.TrodAll enc Tryz.prog W 0 (fun _=>true) true Tryz.f3.params.toList args.toList ds p:=hA0
  rw [Tryz.params3] at hA hval
  obtain ⟨v0,d0,rfl,rfl,h0⟩:=trodAll_one hA
  obtain ⟨rfl,rfl⟩:=trodVars_none hV
  have hlt:∀ x ∈ p,x.block < W.heap.size:=fun x hx=>hW'.lt x (by simpa using hx)
  obtain ⟨vs,vt,C,rfl,hC,hS⟩:=chart_of_arg (hval 0 25 v0 rfl rfl) h0
  clear hA0 hval0
  refine (ilaw1_any vs vt C W (laid_of_row hL) hC hS).mono fun e W' ⟨he,hb⟩=>?_
  subst he
  have e1:Rows.microFirstSpec.fn H ([d0] ++ [])={ results:=[.lit (.bool true)],args:=[d0] }:=by simp [Rows.microFirstSpec]
  refine ⟨_,rfl,_,_,_,[],p,[],hW',?_,?_,?_,hb.frame _,fun h=>by cases h⟩
  · rw [e1]; exact trodAll_mk1 (shut_bool Tryz.underlying4 true)
  · rw [e1]; exact trodAll_mk1 (Below.trod laidOut (by kernel_rfl) (of_decide_eq_true (by kernel_rfl)) h0 hb hlt)
  · rw [e1]; rfl

theorem row_holds:Rows.MicroFirstSaid :=
  OpenClaim.holds_of_wide 3 Tryz.f3 rfl rfl rfl rfl rfl rfl rfl ⟨rfl,rfl,rfl,rfl,rfl⟩ rfl rfl rfl rfl rfl (by kernel_rfl) Tryz.func3 (by kernel_rfl)
    (of_decide_eq_true (by kernel_rfl)) (by unfold Func.isWrapper; first | (rw [if_pos (by decide +kernel)]; kernel_rfl) | (rw [if_neg (by decide +kernel)]; exact ⟨rfl,rfl⟩))
    (fun os started H enc _=>lifted os started H enc)

theorem card_holds:Rows.MicroFirstCardSaid :=
  Claim7.holds_tied_plain_at .later [] [.data, .data, .data, .sentinel, .sentinel, .data] true (true, "289ffc3904c5b87613361c07619a5f1897bf1a7a5f613e689ecadd5f0733f8bb") true
    row_holds (fun _ h=>by cases h) (by kernel_rfl) (fun _ h=>by cases h) microFirst_row_tie rfl ⟨rfl,rfl⟩ (by kernel_rfl) rfl
    (fun f fn hf hfn=>by
      obtain rfl:f=3:=Option.some.inj ((show Tryz.prog.funcNamed Rows.microFirstRow.func=some 3 by kernel_rfl).symm.trans hf) |>.symm
      obtain rfl:fn=Tryz.f3:=(Option.some.inj (Tryz.func3.symm.trans hfn)).symm
      exact ⟨by kernel_rfl,fun j t ht=>by
        rw [Tryz.params3] at ht
        have hm:t ∈ [25]:=by simpa using Array.mem_of_getElem? ht
        have hall:([25].all fun u=>!Tryz.prog.wantsStandIn u)=true:=by kernel_rfl
        exact (show Tryz.prog.wantsStandIn t=false by simpa using List.all_eq_true.1 hall t hm)⟩)
    (by kernel_rfl)
end Go.Proofs.YtfgkcjmeiabdjaaGreatDoor.microFirst

namespace Go.Proofs.YtfgkcjmeiabdjaaGreatDoor
theorem microFirst_proved:Rows.MicroFirstCardSaid:=microFirst.card_holds
#print axioms microFirst_proved
end Go.Proofs.YtfgkcjmeiabdjaaGreatDoor
