/- Proved: for any chart the law MacroStarts returns true: a session of the tree of a chart that is not too large stands, once it was started, as the document's does, and the same went out. Conditions: the listed package-level variables hold what the program's own text lays (the card ties them). -/
import Derived.Test.YtpekhdfmmkmjaaaGreatDoorCards
import Derived.Test.YtpekhdfmmkmjaaaGreatDoorTie
import Derived.Carry
import Derived.ChangeSame
import Derived.ChangeVars
import Derived.JoinedOf
import Derived.SevenTiedAt
import Derived.Test.YtpekhdfmmkmjaaaGreatDoorG17
namespace Go.Proofs.YtpekhdfmmkmjaaaGreatDoor.macroStarts
set_option maxHeartbeats 1000000
set_option maxRecDepth 100000
set_option linter.unusedVariables false
open Go.Proofs.Tryz
open Go.ChangeShapes Go.WideShapes Go.ChangeAt Go.RowKit
theorem a8z:laidOutB prog=true:=by kernel_rfl
set_option maxRecDepth 100000 in
theorem bbd (os:Os) (started:os.Started) (H:Type) (enc:TypeId × Value→H) :
 ReturnsInHanded {} Tryz.checked os 3 .any (fun w args=>(Rows.macroStartsSpec.pre enc prog Tryz.f3 [] false w args∧laidMetH prog ani w)∧sizedMet enc prog Tryz.f3 (OpenSpec.ofChange Rows.macroStartsSpec) false w args)
  (Rows.macroStartsSpec.post enc prog Tryz.f3 false true false false):=by
 refine returnsInHanded_of_change_and (C:=Tryz.checked) (X:=fun w _=>laidMetH prog ani w) (fun _ _ _ hh h=>h.of_heap hh) own started (by kernel_rfl) func3
  (ChangeSpec.witness_shaped (enc:=enc) (C:=Tryz.checked) (os:=os) (X:=fun w _=>laidMetH prog ani w) false (World.doorLaid prog 67 os) #[.agg #[.int .i64 0,.slice none 0 0,.slice none 0 0]] 8 rfl (World.shaped_of_RefB (by kernel_rfl) (by kernel_rfl)) (by kernel_rfl) (by kernel_rfl) (by kernel_rfl) (a5g os _)) ?_
 intro W base args ds gs before hval0 hW _ _ hL _
 have hval:∀ (j:Nat) t v,Tryz.f3.params[j]?=some t→args[j]?=some v→Value.okWide prog W .any base t v:=hval0
 have hW':=hW
 obtain ⟨p,q,hA0,hV,rfl,hfz,hnd⟩:=hW
 have hA:DataW.TrodAll enc prog W 0 (fun _=>true) true Tryz.f3.params.toList args.toList ds p:=hA0
 rw [Tryz.params3] at hA hval
 obtain ⟨v0,d0,rfl,rfl,h0⟩:=trodAll_one hA
 obtain ⟨rfl,rfl⟩:=trodVars_none hV
 have hlt:∀ x ∈ p,x.block < W.heap.size:=fun x hx=>hW'.lt x (by simpa using hx)
 obtain ⟨vs,vt,C,rfl,hC,hS⟩:=apw (hval 0 25 v0 rfl rfl) h0
 clear hA0 hval0
 refine (a2x vs vt C W (ar1 hL) hC hS).mono fun e W' ⟨he,hb⟩=>?_
 subst he
 have e1:Rows.macroStartsSpec.fn H ([d0] ++ [])={ results:=[.lit (.bool true)],args:=[d0] }:=by simp [Rows.macroStartsSpec]
 refine ⟨_,rfl,_,_,_,[],p,[],hW',?_,?_,?_,hb.frame _,fun h=>by cases h⟩
 · rw [e1]; exact trodAll_mk1 (shut_bool underlying4 true)
 · rw [e1]; exact trodAll_mk1 (Below.trod a8z (by kernel_rfl) (of_decide_eq_true (by kernel_rfl)) h0 hb hlt)
 · rw [e1]; rfl
set_option maxHeartbeats 16000000 in
theorem aze:Rows.MacroStartsSaid :=
 OpenClaim.holds_of_wide 3 Tryz.f3 rfl rfl rfl rfl rfl rfl rfl ⟨rfl,rfl,rfl,rfl,rfl⟩ rfl rfl rfl rfl rfl (by as_aux_lemma => kernel_rfl) func3 (by simp only [joinedFacts,Bool.and_eq_true]; and_intros <;> as_aux_lemma => kernel_rfl)
  (of_decide_eq_true (by as_aux_lemma => kernel_rfl)) (by unfold Func.isWrapper; first | (rw [ao (by decide +kernel)]; kernel_rfl) | (rw [ah (by decide +kernel)]; exact ⟨rfl,rfl⟩))
  (fun os started H enc _=>bbd os started H enc)
theorem card_holds:Rows.MacroStartsCardSaid :=
 Claim7.holds_tied_plain_at .later [] [.data, .data, .data, .sentinel, .sentinel, .data] true (true, "ab9304f88bf964dd12cb29d81fd3c6db8f32420682d8b3405e166caf0fb358f9") true
  aze (fun _ h=>by cases h) (by as_aux_lemma => kernel_rfl) (fun _ h=>by cases h) macroStarts_row_tie rfl ⟨rfl,rfl⟩ (by as_aux_lemma => kernel_rfl) rfl
  (fun f fn hf hfn=>by
    obtain rfl:f=3:=Option.some.inj ((show prog.funcNamed Rows.macroStartsRow.func=some 3 by kernel_rfl).symm.trans hf) |>.symm
    obtain rfl:fn=Tryz.f3:=(Option.some.inj (func3.symm.trans hfn)).symm
    exact ⟨by kernel_rfl,fun j t ht=>by
     rw [Tryz.params3] at ht
     have hm:t ∈ [25]:=by simpa using Array.mem_of_getElem? ht
     have hall:([25].all fun u=>!prog.wantsStandIn u)=true:=by kernel_rfl
     exact (show prog.wantsStandIn t=false by simpa using nr.1 hall t hm)⟩)
  (by as_aux_lemma => kernel_rfl)
end Go.Proofs.YtpekhdfmmkmjaaaGreatDoor.macroStarts
namespace Go.Proofs.YtpekhdfmmkmjaaaGreatDoor
theorem macroStarts_proved:Rows.MacroStartsCardSaid:=macroStarts.card_holds
#print axioms macroStarts_proved
end Go.Proofs.YtpekhdfmmkmjaaaGreatDoor
