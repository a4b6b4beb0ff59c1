/- Proved: for any chart the law TableTree returns true: a table is made of a chart, that is not too large, just where a tree is; of each of its states the table's Up, Below and Kids are the tree's, its Default is among what layer 8 enters for the state, and, but for the first state, just what of that is in the state or the state itself; of a history it is none. Conditions: the listed package-level variables hold what the program's own text lays (the card ties them). -/
import Derived.Test.YtmhkpjcdkjnlnaaGreatDoorRows
import Derived.Test.YtmhkpjcdkjnlnaaGreatDoorCards
import Derived.Test.YtmhkpjcdkjnlnaaGreatDoorTie
import Derived.Test.YtmhkpjcdkjnlnaaGreatDoorFWZlaid
import Derived.Test.YtmhkpjcdkjnlnaaGreatDoorFWCarg
import Derived.Test.YtmhkpjcdkjnlnaaGreatDoorFWWlw
import Derived.Carry
import Derived.ChangeSame
import Derived.ChangeVars
import Derived.JoinedOf
import Derived.SevenTiedAt
namespace Go.Proofs.YtmhkpjcdkjnlnaaGreatDoor.tableTree
open Go.ChangeShapes Go.WideShapes Go.ChangeAt Go.RowKit
set_option linter.unusedVariables false

theorem laidOut:laidOutB Tryz.prog=true:=by kernel_rfl

set_option maxRecDepth 100000 in
theorem lifted (os:Os) (started:os.Started) (H:Type) (enc:TypeId × Value→H) :
 ReturnsInHanded {} Tryz.checked os 5 .any (fun w args=>(Rows.tableTreeSpec.pre enc Tryz.prog Tryz.f5 [] false w args∧laidMetH Tryz.prog laid7 w)∧sizedMet enc Tryz.prog Tryz.f5 (OpenSpec.ofChange Rows.tableTreeSpec) false w args)
  (Rows.tableTreeSpec.post enc Tryz.prog Tryz.f5 false true false false):=by
 refine returnsInHanded_of_change_and (C:=Tryz.checked) (X:=fun w _=>laidMetH Tryz.prog laid7 w) (fun _ _ _ hh h=>h.of_heap hh) own started (by kernel_rfl) Tryz.func5
  (ChangeSpec.witness_shaped (enc:=enc) (C:=Tryz.checked) (os:=os) (X:=fun w _=>laidMetH Tryz.prog laid7 w) false (World.doorLaid Tryz.prog 67 os) #[.agg #[.int .i64 0,.slice none 0 0,.slice none 0 0]] 8 rfl (World.shaped_of_RefB (by kernel_rfl) (by kernel_rfl)) (by kernel_rfl) (by kernel_rfl) (by kernel_rfl) (door_met os _)) ?_
 intro W base args ds gs before hval0 hW _ _ hL _
 have hval:∀ (j:Nat) t v,Tryz.f5.params[j]?=some t→args[j]?=some v→Value.okWide Tryz.prog W .any base t v:=hval0
 have hW':=hW
 obtain ⟨p,q,hA0,hV,rfl,hfz,hnd⟩:=hW
 have hA:DataW.TrodAll enc Tryz.prog W 0 (fun _=>true) true Tryz.f5.params.toList args.toList ds p:=hA0
 rw [Tryz.params5] at hA hval
 obtain ⟨v0,d0,rfl,rfl,h0⟩:=trodAll_one hA
 obtain ⟨rfl,rfl⟩:=trodVars_none hV
 have hlt:∀ x ∈ p,x.block < W.heap.size:=fun x hx=>hW'.lt x (by simpa using hx)
 obtain ⟨vs,vt,C,rfl,hC,hS⟩:=chart_of_arg (hval 0 25 v0 rfl rfl) h0
 clear hA0 hval0
 refine (wlaw_any vs vt C W (laid_of_row hL) hC hS).mono fun e W' ⟨he,hb⟩=>?_
 subst he
 have e1:Rows.tableTreeSpec.fn H ([d0] ++ [])={ results:=[.lit (.bool true)],args:=[d0] }:=by simp [Rows.tableTreeSpec]
 refine ⟨_,rfl,_,_,_,[],p,[],hW',?_,?_,?_,hb.frame _,fun h=>by cases h⟩
 · rw [e1]; exact trodAll_mk1 (shut_bool Tryz.underlying4 true)
 · rw [e1]; exact trodAll_mk1 (Below.trod laidOut (by kernel_rfl) (of_decide_eq_true (by kernel_rfl)) h0 hb hlt)
 · rw [e1]; rfl

theorem row_holds:Rows.TableTreeSaid :=
 OpenClaim.holds_of_wide 5 Tryz.f5 rfl rfl rfl rfl rfl rfl rfl ⟨rfl,rfl,rfl,rfl,rfl⟩ rfl rfl rfl rfl rfl (by kernel_rfl) Tryz.func5 (by kernel_rfl)
  (of_decide_eq_true (by kernel_rfl)) (by unfold Func.isWrapper; first | (rw [if_pos (by decide +kernel)]; kernel_rfl) | (rw [if_neg (by decide +kernel)]; exact ⟨rfl,rfl⟩))
  (fun os started H enc _=>lifted os started H enc)

theorem card_holds:Rows.TableTreeCardSaid :=
 Claim7.holds_tied_plain_at .later [] [.data, .data, .data, .sentinel, .sentinel, .data] true (true, "cc29b3e3249a7cb15d7997eaf88cbd383e2792689fce5b98e4dfb0b0127a3a3f") true
  row_holds (fun _ h=>by cases h) (by kernel_rfl) (fun _ h=>by cases h) tableTree_row_tie rfl ⟨rfl,rfl⟩ (by kernel_rfl) rfl
  (fun f fn hf hfn=>by
    obtain rfl:f=5:=Option.some.inj ((show Tryz.prog.funcNamed Rows.tableTreeRow.func=some 5 by kernel_rfl).symm.trans hf) |>.symm
    obtain rfl:fn=Tryz.f5:=(Option.some.inj (Tryz.func5.symm.trans hfn)).symm
    exact ⟨by kernel_rfl,fun j t ht=>by
     rw [Tryz.params5] at ht
     have hm:t ∈ [25]:=by simpa using Array.mem_of_getElem? ht
     have hall:([25].all fun u=>!Tryz.prog.wantsStandIn u)=true:=by kernel_rfl
     exact (show Tryz.prog.wantsStandIn t=false by simpa using List.all_eq_true.1 hall t hm)⟩)
  (by kernel_rfl)
end Go.Proofs.YtmhkpjcdkjnlnaaGreatDoor.tableTree

namespace Go.Proofs.YtmhkpjcdkjnlnaaGreatDoor
theorem tableTree_proved:Rows.TableTreeCardSaid:=tableTree.card_holds
#print axioms tableTree_proved
end Go.Proofs.YtmhkpjcdkjnlnaaGreatDoor
