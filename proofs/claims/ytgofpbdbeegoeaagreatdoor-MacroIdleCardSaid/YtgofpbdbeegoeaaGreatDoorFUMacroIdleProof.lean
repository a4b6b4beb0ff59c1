/- Proved: for any chart, any events and any event the law MacroIdle returns true: in the tree of a chart that is not too large, without Guards at event 0 and without transitions that take the event, the event changes nothing, and nothing goes out, in a session that was started and has taken at most twelve events. Conditions: the listed package-level variables hold what the program's own text lays (the card ties them). -/
import Derived.Test.YtgofpbdbeegoeaaGreatDoorRows
import Derived.Test.YtgofpbdbeegoeaaGreatDoorCards
import Derived.Test.YtgofpbdbeegoeaaGreatDoorTie
import Derived.Test.YtgofpbdbeegoeaaGreatDoorFUZlaid
import Derived.Test.YtgofpbdbeegoeaaGreatDoorFUCarg
import Derived.Test.YtgofpbdbeegoeaaGreatDoorFUSarg
import Derived.Test.YtgofpbdbeegoeaaGreatDoorFUUlw2
import Derived.Carry
import Derived.ChangeSame
import Derived.ChangeVars
import Derived.JoinedOf
import Derived.SevenTiedAt
namespace Go.Proofs.YtgofpbdbeegoeaaGreatDoor.macroIdle
open Go.ChangeShapes Go.WideShapes Go.ChangeAt Go.RowKit
set_option linter.unusedVariables false

theorem laidOut:laidOutB Tryz.prog=true:=by kernel_rfl

set_option maxRecDepth 100000 in
theorem lifted (os:Os) (started:os.Started) (H:Type) (enc:TypeId × Value→H) :
 ReturnsInHanded {} Tryz.checked os 6 .any (fun w args=>(Rows.macroIdleSpec.pre enc Tryz.prog Tryz.f6 [] false w args∧laidMetH Tryz.prog laid7 w)∧sizedMet enc Tryz.prog Tryz.f6 (OpenSpec.ofChange Rows.macroIdleSpec) false w args)
  (Rows.macroIdleSpec.post enc Tryz.prog Tryz.f6 false true false false):=by
 refine returnsInHanded_of_change_and (C:=Tryz.checked) (X:=fun w _=>laidMetH Tryz.prog laid7 w) (fun _ _ _ hh h=>h.of_heap hh) own started (by kernel_rfl) Tryz.func6
  (ChangeSpec.witness_shaped (enc:=enc) (C:=Tryz.checked) (os:=os) (X:=fun w _=>laidMetH Tryz.prog laid7 w) false (World.doorLaid Tryz.prog 67 os) #[.agg #[.int .i64 0,.slice none 0 0,.slice none 0 0],.slice none 0 0,.int .i64 0] 8 rfl (World.shaped_of_RefB (by kernel_rfl) (by kernel_rfl)) (by kernel_rfl) (by kernel_rfl) (by kernel_rfl) (door_met os _)) ?_
 intro W base args ds gs before hval0 hW _ _ hL _
 have hval:∀ (j:Nat) t v,Tryz.f6.params[j]?=some t→args[j]?=some v→Value.okWide Tryz.prog W .any base t v:=hval0
 have hW':=hW
 obtain ⟨p,q,hA0,hV,rfl,hfz,hnd⟩:=hW
 have hA:DataW.TrodAll enc Tryz.prog W 0 (fun _=>true) true Tryz.f6.params.toList args.toList ds p:=hA0
 rw [Tryz.params6] at hA hval
 obtain ⟨v0,v1,v2,d0,d1,d2,p0,p1,p2,rfl,rfl,rfl,h0,h1,h2⟩:=trodAll_three hA
 obtain ⟨rfl,rfl⟩:=trodVars_none hV
 have hlt:∀ x ∈ p0 ++ p1 ++ p2,x.block < W.heap.size:=fun x hx=>hW'.lt x (by simpa using hx)
 obtain ⟨vs,vt,C,rfl,hC,hS⟩:=chart_of_arg (hval 0 25 v0 rfl rfl) h0
 obtain ⟨l,hLi,hlS⟩:=nums_of_arg (hval 1 29 v1 rfl rfl) h1
 obtain ⟨ev,rfl⟩:=int_of_arg (hval 2 3 v2 rfl rfl)
 clear hA0 hval0
 refine (ulaw2_any vs vt v1 C l ev W (laid_of_row hL) hC hS hLi).mono fun e W' ⟨he,hb⟩=>?_
 subst he
 have e1:Rows.macroIdleSpec.fn H ([d0,d1,d2] ++ [])={ results:=[.lit (.bool true)],args:=[d0,d1,d2] }:=by simp [Rows.macroIdleSpec]
 refine ⟨_,rfl,_,_,_,[],p0 ++ (p1 ++ p2),[],hW',?_,?_,?_,hb.frame _,fun h=>by cases h⟩
 · rw [e1]; exact trodAll_mk1 (shut_bool Tryz.underlying4 true)
 · rw [e1]; exact trodAll_mk3 (Below.trod laidOut (by kernel_rfl) (of_decide_eq_true (by kernel_rfl)) h0 hb (fun x hx=>hlt x (by simp [hx]))) (Below.trod laidOut (by kernel_rfl) (of_decide_eq_true (by kernel_rfl)) h1 hb (fun x hx=>hlt x (by simp [hx]))) (Below.trod laidOut (by kernel_rfl) (of_decide_eq_true (by kernel_rfl)) h2 hb (fun x hx=>hlt x (by simp [hx])))
 · rw [e1]; rfl

theorem row_holds:Rows.MacroIdleSaid :=
 OpenClaim.holds_of_wide 6 Tryz.f6 rfl rfl rfl rfl rfl rfl rfl ⟨rfl,rfl,rfl,rfl,rfl⟩ rfl rfl rfl rfl rfl (by kernel_rfl) Tryz.func6 (by kernel_rfl)
  (of_decide_eq_true (by kernel_rfl)) (by unfold Func.isWrapper; first | (rw [if_pos (by decide +kernel)]; kernel_rfl) | (rw [if_neg (by decide +kernel)]; exact ⟨rfl,rfl⟩))
  (fun os started H enc _=>lifted os started H enc)

theorem card_holds:Rows.MacroIdleCardSaid :=
 Claim7.holds_tied_plain_at .later [] [.data, .data, .data, .sentinel, .sentinel, .data] true (true, "bef690a948a19cd11a07a0a8083693a4b78754645dfb6f7339aac58da2f7d4a8") true
  row_holds (fun _ h=>by cases h) (by kernel_rfl) (fun _ h=>by cases h) macroIdle_row_tie rfl ⟨rfl,rfl⟩ (by kernel_rfl) rfl
  (fun f fn hf hfn=>by
    obtain rfl:f=6:=Option.some.inj ((show Tryz.prog.funcNamed Rows.macroIdleRow.func=some 6 by kernel_rfl).symm.trans hf) |>.symm
    obtain rfl:fn=Tryz.f6:=(Option.some.inj (Tryz.func6.symm.trans hfn)).symm
    exact ⟨by kernel_rfl,fun j t ht=>by
     rw [Tryz.params6] at ht
     have hm:t ∈ [25,29,3]:=by simpa using Array.mem_of_getElem? ht
     have hall:([25,29,3].all fun u=>!Tryz.prog.wantsStandIn u)=true:=by kernel_rfl
     exact (show Tryz.prog.wantsStandIn t=false by simpa using List.all_eq_true.1 hall t hm)⟩)
  (by kernel_rfl)
end Go.Proofs.YtgofpbdbeegoeaaGreatDoor.macroIdle

namespace Go.Proofs.YtgofpbdbeegoeaaGreatDoor
theorem macroIdle_proved:Rows.MacroIdleCardSaid:=macroIdle.card_holds
#print axioms macroIdle_proved
end Go.Proofs.YtgofpbdbeegoeaaGreatDoor
