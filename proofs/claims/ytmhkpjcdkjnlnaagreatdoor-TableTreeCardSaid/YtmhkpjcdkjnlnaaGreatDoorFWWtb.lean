/- Tables in memory; the contracts of table.New, and of Up, Below, Kids and Default. -/
import Derived.Test.YtmhkpjcdkjnlnaaGreatDoorFWWso
import Derived.Test.YtmhkpjcdkjnlnaaGreatDoorFWIup
namespace Go.Proofs.YtmhkpjcdkjnlnaaGreatDoor
open Go.ChangeShapes Go.WideShapes Go.ChangeAt Go.RowKit
set_option linter.unusedVariables false

def WTbl (w:World) (p:Nat) (C:Ch):Prop:=∃ (x:Nat) (g:Nat) (A:Option Addr) (n c:Nat),Blk w p 88 #[.pointer (some ⟨x,0,none⟩),.slice (some ⟨g,0,none⟩) C.sts.length C.sts.length,.slice A n c]∧WTab w g C.sts 0
theorem WTbl.below {w w':World} {p:Nat} {C:Ch} (h:WTbl w p C) (hb:Below w.heap.size w w'):WTbl w' p C:=by
 obtain ⟨x,g,A,n,c,h1,h2⟩:=h
 exact ⟨x,g,A,n,c,h1.below hb h1.lt,h2.below hb⟩
theorem load_ts {w:World} {g:Nat} {a b c d e:Value} (hB:Blk w g 100 #[a,b,c,d,e]):(loadVar 100 ⟨g,0,none⟩).run Tryz.prog w=.ok (.agg #[a,b,c,d,e]) w:=run_loadVar_row (P:=Tryz.prog) w g 100 100 _ (0,0) _ hB Tryz.underlying100 rfl (by kernel_rfl)
theorem nilB_no (t:Nat) (w:World):(binOp .eql 53 (.pointer (some ⟨t,0,none⟩)) (.pointer none)).run Tryz.prog w=.ok (.bool false) w:=by kernel_rfl
def WNPost (C:Ch) (w:World) (e:Ending) (w':World):Prop :=
 Below w.heap.size w w'∧match chk hasTB C with
  | .ok=>∃ g,e=.returned (.tuple #[.pointer (some ⟨g,0,none⟩),.nilIface])∧w.heap.size≤g∧WTbl w' g C
  | .large=>e=.returned (.tuple #[.pointer none,.iface 82 (.int .i64 3)])
  | .spot k c=>∃ g,e=.returned (.tuple #[.pointer none,.iface 106 (.pointer (some ⟨g,0,none⟩))])
theorem wnpost_yes {C:Ch} {w:World} {e:Ending} {w':World} (h:WNPost C w e w') (hc:chk hasTB C=.ok):Below w.heap.size w w'∧∃ g,e=.returned (.tuple #[.pointer (some ⟨g,0,none⟩),.nilIface])∧w.heap.size≤g∧WTbl w' g C:=by
 unfold WNPost at h
 rw [hc] at h
 exact h
theorem wnpost_no {C:Ch} {w:World} {e:Ending} {w':World} (h:WNPost C w e w') (hc:¬ chk hasTB C=.ok):Below w.heap.size w w'∧((∃ p,e=.returned (.tuple #[.pointer none,.iface 82 p])) ∨ ∃ p,e=.returned (.tuple #[.pointer none,.iface 106 p])):=by
 unfold WNPost at h
 refine ⟨h.1,?_⟩
 have h2:=h.2
 revert h2
 cases hk:chk hasTB C with
 | ok=>exact absurd hk hc
 | large=>exact fun h=>.inl ⟨_,h⟩
 | spot k c=>rintro ⟨g,h⟩; exact .inr ⟨_,h⟩
set_option maxHeartbeats 8000000 in
set_option maxRecDepth 100000 in
theorem wnew_any (vs vt:Value) (C:Ch) (w:World) (hL:Laid w) (hC:ChHas w vs vt C) (hF:fewB C=true):Calls Tryz.prog 17 #[.agg #[.int .i64 C.vars,vs,vt]] w (WNPost C w):=by
 obtain ⟨sA,scap,tA,tcap,rfl,rfl⟩:=hC.slices
 have HB0:=Lib.hid (below_box w (chBox C.vars (.slice sA C.sts.length scap) (.slice tA C.trs.length tcap)))
 have HN:=Lib.hid (new_any _ _ C _ (hL.after HB0.out) (hC.below HB0.out) hF)
 have HC:=Lib.hid hC
 have HL:=Lib.hid hL
 have HF:=Lib.hid hF
 have hnn:=neq_nil_nil
 have hnc:=fun p W=>neq_code_any p W
 have hns:=fun p W=>neq_spot_any p W
 clear hL hC hF
 by_cases hok:chk hasTB C=.ok
 · have HK:=Lib.hid hok
   have HTA:=Lib.hid (tame_of hok)
   have HRT:=Lib.hid (rooted_of hok)
   clear hok
   go_enter Tryz.func17,Tryz.ntmps17
   go_wp2_with fail
   refine HN.out.mono ?_
   intro e w1 hp
   obtain ⟨hb1,t,rfl,ht,hT⟩:=npost_yes hp HK.out
   have HB1:=Lib.hid hb1
   have HT1:=Lib.hid hT
   have HLA:Hid (∀ W,Below (w.alloc (chBox C.vars (.slice sA C.sts.length scap) (.slice tA C.trs.length tcap))).heap.size (w.alloc (chBox C.vars (.slice sA C.sts.length scap) (.slice tA C.trs.length tcap))) W→W.cell? ⟨w.heap.size,0,none⟩=some (.int .i64 C.vars)∧W.cell? ⟨w.heap.size,1,none⟩=some (.slice sA C.sts.length scap)∧W.cell? ⟨w.heap.size,2,none⟩=some (.slice tA C.trs.length tcap)):=Lib.hid fun W hb=>box_later hb
   clear hb1 hp hT HN ht
   go_wp2_with fail
   refine anyD_start (fun W=>W.cell? ⟨w.heap.size,0,none⟩=some (.int .i64 C.vars)∧W.cell? ⟨w.heap.size,1,none⟩=some (.slice sA C.sts.length scap)∧W.cell? ⟨w.heap.size,2,none⟩=some (.slice tA C.trs.length tcap)) (fun i=>[].contains i) (by kernel_rfl) ?_
   try simp only [Act.put,sx]
   have HB2:=Lib.hid HB1.out.drew
   have HT2:=Lib.hid (HT1.out.below (Below.refl _ _).drew)
   generalize w1.drew=w2 at *
   have hcs:=HLA.out _ HB2.out
   refine anyD_t 0 (.pointer (some ⟨t,0,none⟩)) ?_
   try simp only [Act.put,sx]
   refine anyD_t 1 (.pointer (some ⟨t,0,none⟩)) ?_
   try simp only [Act.put,sx]
   refine anyD_l 3 (.agg #[.int .i64 C.vars,.slice sA C.sts.length scap,.slice tA C.trs.length tcap]) (hcs) ?_
   try simp only [Act.put,sx]
   clear hcs
   refine anyD_one (i:=2) rfl rfl (by kernel_rfl) (fun K HK=>?_)
   go_simp
   refine (statesOf_any t C _ HT2.out HF.out HTA.out HRT.out).mono ?_
   rintro e w3 ⟨hb3,g,rfl,hg,hW⟩
   have HB3:=Lib.hid (HB2.out.trans (hb3.mono HB2.out.size))
   have HW3:=Lib.hid hW
   have hcs3:=HLA.out _ HB3.out
   clear hb3 hW hg
   go_simp
   refine HK.out _ _ (fun _ hS=>hcs3) ?_
   clear HK K
   try simp only [Act.put,sx]
   clear hcs3
   refine anyD_one (i:=4) rfl rfl (by kernel_rfl) (fun K HK=>?_)
   go_simp
   refine (guardsOf_any _ _ C _ (HL.out.after (below_boxed HB3.out)) (HC.out.below (below_boxed HB3.out)).2 HF.out).mono ?_
   rintro e w4 ⟨hb4,A,n,c,rfl⟩
   have HB4:=Lib.hid (HB3.out.trans (hb4.mono HB3.out.size))
   have HW4:=Lib.hid (HW3.out.below hb4)
   have hcs4:=HLA.out _ HB4.out
   clear hb4 HB3 HW3
   go_simp
   refine HK.out _ _ (fun _ hS=>hcs4) ?_
   clear HK K
   try simp only [Act.put,sx]
   clear hcs4
   refine anyD_t 5 (.agg #[.pointer (some ⟨t,0,none⟩),.slice (some ⟨g,0,none⟩) C.sts.length C.sts.length,.slice A n c]) ?_
   try simp only [Act.put,sx]
   refine anyD_one (i:=6) rfl rfl (by kernel_rfl) (fun K HK=>?_)
   go_simp
   have hbx:=below_box w4 (.cells #[.pointer (some ⟨t,0,none⟩),.slice (some ⟨g,0,none⟩) C.sts.length C.sts.length,.slice A n c] 88)
   have HB5:=Lib.hid (HB4.out.trans (hbx.mono HB4.out.size))
   have hcs5:=HLA.out _ HB5.out
   refine HK.out _ _ (fun _ hS=>hcs5) ?_
   clear HK K
   try simp only [Act.put,sx]
   clear hcs5
   refine anyD_t 7 (.pointer (some ⟨w4.heap.size,0,none⟩)) ?_
   try simp only [Act.put,sx]
   refine anyD_t 8 (.nilIface) ?_
   try simp only [Act.put,sx]
   refine anyD_done (by kernel_rfl) ?_
   go_wp2_with fail
   go_ret2
   refine ⟨below_boxed HB5.out,?_⟩
   rw [HK.out]
   exact ⟨w4.heap.size,rfl,(below_boxed HB4.out).size,t,g,A,n,c,Blk.new w4 _ _,HW4.out.below hbx⟩
 · have HK:=Lib.hid hok
   clear hok
   go_enter Tryz.func17,Tryz.ntmps17
   go_wp2_with fail
   refine HN.out.mono ?_
   intro e w1 hp
   have HP:=Lib.hid hp
   obtain ⟨hb1,hv⟩:=npost_no hp HK.out
   have HB1:=Lib.hid (below_boxed hb1)
   clear hb1
   have HEQ:Hid (∀ E,e=.returned (.tuple #[.pointer none,E])→WNPost C w (.returned (.tuple #[.pointer none,E])) w1):=Lib.hid (fun E hE=>by
    refine ⟨HB1.out,?_⟩
    have h2:=HP.out.2
    revert h2
    rw [hE]
    cases hk:chk hasTB C with
    | ok=>exact absurd hk HK.out
    | large=>exact fun h=>h
    | spot k c=>rintro ⟨g,h,-⟩; exact ⟨g,h⟩)
   clear hp HP
   rcases hv with ⟨p,rfl⟩ | ⟨p,rfl⟩
   · go_wp2_with fail
     go_ret2
     exact HEQ.out _ rfl
   · go_wp2_with fail
     go_ret2
     exact HEQ.out _ rfl
theorem field_ts (a b c d e:Value) (w:World):Sem.run Tryz.prog (Instr.field 100 (.agg #[a,b,c,d,e]) 0) w=.ok a w∧Sem.run Tryz.prog (Instr.field 100 (.agg #[a,b,c,d,e]) 1) w=.ok b w∧Sem.run Tryz.prog (Instr.field 100 (.agg #[a,b,c,d,e]) 2) w=.ok c w∧Sem.run Tryz.prog (Instr.field 100 (.agg #[a,b,c,d,e]) 3) w=.ok d w:=by
 have h:=Tryz.underlying100
 refine ⟨?_,?_,?_,?_⟩ <;> (unfold Instr.field; simp [go_sem,asAgg])
section
variable {p:Nat} {C:Ch} {w:World}
set_option maxHeartbeats 2000000 in
set_option maxRecDepth 100000 in
theorem wstate_any (hW:WTbl w p C) (hl:C.sts.length≤1000) (s:Nat) (hs:s < C.sts.length) :
 Calls Tryz.prog 52 #[.pointer (some ⟨p,0,none⟩),.int .i64 (s:Int)] w fun e w'=>Below w.heap.size w w'∧∃ A n c,e=.returned (.agg #[.int .u32 ((bset (inL (ups C.sts (s:Int))) C.sts.length:Nat):Int),.int .u32 ((belowN C.sts (s:Int):Nat):Int),.int .u32 ((bset (kidB C.sts (s:Int)) C.sts.length:Nat):Int),.int .u32 ((bset (defT C.sts (s:Int)) C.sts.length:Nat):Int),.slice A n c]):=by
 obtain ⟨x,g,A,n,c,hX,hT⟩:=hW
 have hno:=fun W=>nilB_no p W
 have hbx:=below_box w (.cells #[.int .u32 0,.int .u32 0,.int .u32 0,.int .u32 0,.slice none 0 0] 100)
 obtain ⟨⟨x0,x1,x2⟩,-⟩:=(hX.below hbx hX.lt).facts3
 obtain ⟨c0,c1,c2,c3,lA,ln,lc,c4⟩:=(hT.below hbx).cells (Nat.zero_le s) hs
 have HQ:=Lib.hid (Blk.new w 100 #[.int .u32 0,.int .u32 0,.int .u32 0,.int .u32 0,.slice none 0 0])
 obtain ⟨⟨q0,q1,q2,q3,q4⟩,f0,f1,f2,f3,f4⟩:=blk5_facts HQ.out
 have HBX:=Lib.hid hbx
 have h0:decide ((s:Int) < 0)=false:=by simp
 generalize bset (inL (ups C.sts (s:Int))) C.sts.length=n0 at *
 generalize belowN C.sts (s:Int)=n1 at *
 generalize bset (kidB C.sts (s:Int)) C.sts.length=n2 at *
 generalize bset (defT C.sts (s:Int)) C.sts.length=n3 at *
 clear hX hT hbx
 go_enter Tryz.func52,Tryz.ntmps52
 go_wp2_with fail
 refine bodyPost_ret (results_own rfl _ _ _ rfl (load_ts (Blk.new _ _ _))) rfl ?_
 exact ⟨below_box w _,lA,ln,lc,rfl⟩
set_option maxHeartbeats 4000000 in
set_option maxRecDepth 100000 in
theorem wup_any (hW:WTbl w p C) (hl:C.sts.length≤1000) (s:Nat) (hs:s < C.sts.length) :
 Calls Tryz.prog 22 #[.pointer (some ⟨p,0,none⟩),.int .i64 (s:Int)] w fun e w'=>e=.returned (.int .u32 ((bset (inL (ups C.sts (s:Int))) C.sts.length:Nat):Int))∧Below w.heap.size w w':=by
 have HS:=Lib.hid (wstate_any hW hl s hs)
 have hfd:=fun a b c d e W=>(field_ts a b c d e W).1
 clear hW
 go_enter Tryz.func22,Tryz.ntmps22
 go_wp2_with fail
 refine HS.out.mono ?_
 rintro e w1 ⟨hb1,A,n,c,rfl⟩
 go_wp2_with fail
 go_ret
 exact ⟨rfl,hb1⟩
set_option maxHeartbeats 4000000 in
set_option maxRecDepth 100000 in
theorem wbelow_any (hW:WTbl w p C) (hl:C.sts.length≤1000) (s:Nat) (hs:s < C.sts.length) :
 Calls Tryz.prog 23 #[.pointer (some ⟨p,0,none⟩),.int .i64 (s:Int)] w fun e w'=>e=.returned (.int .u32 ((belowN C.sts (s:Int):Nat):Int))∧Below w.heap.size w w':=by
 have HS:=Lib.hid (wstate_any hW hl s hs)
 have hfd:=fun a b c d e W=>(field_ts a b c d e W).2.1
 clear hW
 go_enter Tryz.func23,Tryz.ntmps23
 go_wp2_with fail
 refine HS.out.mono ?_
 rintro e w1 ⟨hb1,A,n,c,rfl⟩
 go_wp2_with fail
 go_ret
 exact ⟨rfl,hb1⟩
set_option maxHeartbeats 4000000 in
set_option maxRecDepth 100000 in
theorem wkids_any (hW:WTbl w p C) (hl:C.sts.length≤1000) (s:Nat) (hs:s < C.sts.length) :
 Calls Tryz.prog 25 #[.pointer (some ⟨p,0,none⟩),.int .i64 (s:Int)] w fun e w'=>e=.returned (.int .u32 ((bset (kidB C.sts (s:Int)) C.sts.length:Nat):Int))∧Below w.heap.size w w':=by
 have HS:=Lib.hid (wstate_any hW hl s hs)
 have hfd:=fun a b c d e W=>(field_ts a b c d e W).2.2.1
 clear hW
 go_enter Tryz.func25,Tryz.ntmps25
 go_wp2_with fail
 refine HS.out.mono ?_
 rintro e w1 ⟨hb1,A,n,c,rfl⟩
 go_wp2_with fail
 go_ret
 exact ⟨rfl,hb1⟩
set_option maxHeartbeats 4000000 in
set_option maxRecDepth 100000 in
theorem wdef_any (hW:WTbl w p C) (hl:C.sts.length≤1000) (s:Nat) (hs:s < C.sts.length) :
 Calls Tryz.prog 27 #[.pointer (some ⟨p,0,none⟩),.int .i64 (s:Int)] w fun e w'=>e=.returned (.int .u32 ((bset (defT C.sts (s:Int)) C.sts.length:Nat):Int))∧Below w.heap.size w w':=by
 have HS:=Lib.hid (wstate_any hW hl s hs)
 have hfd:=fun a b c d e W=>(field_ts a b c d e W).2.2.2
 clear hW
 go_enter Tryz.func27,Tryz.ntmps27
 go_wp2_with fail
 refine HS.out.mono ?_
 rintro e w1 ⟨hb1,A,n,c,rfl⟩
 go_wp2_with fail
 go_ret
 exact ⟨rfl,hb1⟩
end
end Go.Proofs.YtmhkpjcdkjnlnaaGreatDoor
