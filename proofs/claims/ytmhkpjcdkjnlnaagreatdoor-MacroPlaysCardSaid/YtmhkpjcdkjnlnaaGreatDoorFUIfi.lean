/- The contracts of slices.Clone over histories and numbers, and of micro's stepFrom, Begin, First. -/
import Derived.Test.YtmhkpjcdkjnlnaaGreatDoorFUIdn
import Derived.Test.YtmhkpjcdkjnlnaaGreatDoorFUIze
import Derived.Test.YtmhkpjcdkjnlnaaGreatDoorFUArw
namespace Go.Proofs.YtmhkpjcdkjnlnaaGreatDoor
open Go.ChangeShapes Go.WideShapes Go.ChangeAt Go.RowKit
set_option linter.unusedVariables false

theorem Tryz.infoU:(Tryz.prog.info? 33).map (fun i=>(i.zero,i.size,i.bytes))=some (some (.int .u32 0),1,4):=by kernel_rfl
theorem nilU_yes (c:Nat) (w:World):(binOp .eql 34 (.slice none 0 c) (.slice none 0 0)).run Tryz.prog w=.ok (.bool true) w:=by kernel_rfl
theorem nilU_no (ad:Addr) (n c:Nat) (w:World):(binOp .eql 34 (.slice (some ad) n c) (.slice none 0 0)).run Tryz.prog w=.ok (.bool false) w:=by kernel_rfl
theorem nilI_yes (c:Nat) (w:World):(binOp .eql 36 (.slice none 0 c) (.slice none 0 0)).run Tryz.prog w=.ok (.bool true) w:=by kernel_rfl
theorem nilI_no (ad:Addr) (n c:Nat) (w:World):(binOp .eql 36 (.slice (some ad) n c) (.slice none 0 0)).run Tryz.prog w=.ok (.bool false) w:=by kernel_rfl
theorem nilT_no (t:Nat) (w:World):(binOp .eql 28 (.pointer (some ⟨t,0,none⟩)) (.pointer none)).run Tryz.prog w=.ok (.bool false) w:=by kernel_rfl
theorem rowIs_hist {w:World} {v:Value} {H:List Nat} (h:HistAt w v H):RowIs w 1 v H.length (H.flatMap u32Cells) :=
 rowIs_of (cells:=u32Cells) (fun _=>rfl) (by decide) h (fun b o x hp j u hu=>by
  cases j with
  | zero=>simp at hu; subst hu; exact hp.1
  | succ j=>simp at hu) (fun x _ u hu=>one_mem rfl hu)
theorem HistAt.lt {w:World} {v:Value} {H:List Nat} (h:HistAt w v H):∀ x ∈ H,x < 4294967296:=fun x hx=>by
 obtain ⟨b,o,hp⟩:=RowsAt.mem h x hx
 exact hp.2
theorem hist_of_own {B:Nat} {w:World} {v:Value} {H:List Nat} (h:w.ownsRow B 33 1 v H.length (H.flatMap u32Cells)) (hlt:∀ x ∈ H,x < 4294967296):OwnHist B w v H:=⟨RowAt.of_own (cells:=u32Cells) (fun _=>rfl) h,hlt⟩
set_option maxHeartbeats 4000000 in
set_option maxRecDepth 100000 in
theorem cloneU_any (v:Value) (H:List Nat) (w:World) (h:HistAt w v H) (hl:H.length≤1000) :
 Calls Tryz.prog 105 #[v] w fun e w'=>Below w.heap.size w w'∧∃ v',e=.returned v'∧w'.ownsRow w.heap.size 33 1 v' H.length (H.flatMap u32Cells):=by
 have hr:=rowIs_hist h
 clear h
 obtain ⟨hn,⟨c,rfl,h0⟩ | ⟨ad,cap,rfl,hc,ho⟩⟩:=hr
 · obtain rfl:H=[]:=List.eq_nil_of_length_eq_zero h0
   have hnil:=fun W=>nilU_yes c W
   clear hn h0 hl
   go_enter Tryz.func105,Tryz.ntmps105
   go_wp2_with fail
   go_ret
   exact ⟨Below.refl _ _,_,rfl,World.ownsRow_nil _ _ _ _⟩
 · obtain ⟨i0,hi,hz0,hz1,hz2⟩:=info_parts Tryz.infoU
   have HI:=Lib.hid hi
   have HZ0:=Lib.hid hz0
   have HZ1:=Lib.hid hz1
   have HZ2:=Lib.hid hz2
   have HN:=Lib.hid hn
   have HB:=Lib.hid (below_box w (.cells #[] 33))
   have HC:=Lib.hid (fun (j:Nat) (u:Value) (hj:(H.flatMap u32Cells)[j]?=some u)=>(hc j u hj))
   have HO:=Lib.hid ho
   have hnil:=fun W=>nilU_no ad H.length cap W
   clear hi hz0 hz1 hz2 hn hc ho
   go_enter Tryz.func105,Tryz.ntmps105
   go_wp2_with (at_builtin; refine wpList_append_own_at _ rfl _ _ 34 rfl w.heap.size 33 i0 (.int .u32 0) 1 4 Tryz.underlying34 HI.out HZ0.out HZ1.out HZ2.out rfl (by decide) _ 0 [] rfl (own_zero w 33 1) ad H.length cap (H.flatMap u32Cells) rfl HN.out ?c1 HO.out ?c3 ?c4 ?c5 ?_)
   case c1=>exact fun j u hj=>(HB.out.cell (Lib.lt_of_cell (HC.out j u hj))).trans (HC.out j u hj)
   case c3=>unfold maxLen; omega
   case c4=>omega
   case c5=>simp
   intro v' w2 hown' hgrow _ _
   have HG:=Lib.hid (Below.grown HB.out hgrow (by simp) (fun g hg=>by
    have h:some w.heap.size=some g:=hg
    injection h with h
    omega))
   have HW:=Lib.hid hown'
   clear hown' hgrow
   go_wp2
   go_ret
   exact ⟨HG.out,_,rfl,by simpa using HW.out⟩
set_option maxHeartbeats 4000000 in
set_option maxRecDepth 100000 in
theorem cloneI_any (v:Value) (L:List Int) (w:World) (h:ListAt w v L) (hl:L.length≤100000) :
 Calls Tryz.prog 107 #[v] w fun e w'=>Below w.heap.size w w'∧∃ v',e=.returned v'∧w'.ownsRow w.heap.size 3 1 v' L.length (intVals L):=by
 have hr:=rowIs_ints h
 clear h
 obtain ⟨hn,⟨c,rfl,h0⟩ | ⟨ad,cap,rfl,hc,ho⟩⟩:=hr
 · obtain rfl:L=[]:=List.eq_nil_of_length_eq_zero h0
   have hnil:=fun W=>nilI_yes c W
   clear hn h0 hl
   go_enter Tryz.func107,Tryz.ntmps107
   go_wp2_with fail
   go_ret
   exact ⟨Below.refl _ _,_,rfl,World.ownsRow_nil _ _ _ _⟩
 · obtain ⟨i0,hi,hz0,hz1,hz2⟩:=info_parts Tryz.info3
   have HI:=Lib.hid hi
   have HZ0:=Lib.hid hz0
   have HZ1:=Lib.hid hz1
   have HZ2:=Lib.hid hz2
   have HN:=Lib.hid hn
   have HB:=Lib.hid (below_box w (.cells #[] 3))
   have HC:=Lib.hid (fun (j:Nat) (u:Value) (hj:(intVals L)[j]?=some u)=>(hc j u hj))
   have HO:=Lib.hid ho
   have hnil:=fun W=>nilI_no ad L.length cap W
   clear hi hz0 hz1 hz2 hn hc ho
   go_enter Tryz.func107,Tryz.ntmps107
   go_wp2_with (at_builtin; refine wpList_append_own_at _ rfl _ _ 36 rfl w.heap.size 3 i0 (.int .i64 0) 1 8 Tryz.underlying36 HI.out HZ0.out HZ1.out HZ2.out rfl (by decide) _ 0 [] rfl (own_zero w 3 1) ad L.length cap (intVals L) rfl HN.out ?c1 HO.out ?c3 ?c4 ?c5 ?_)
   case c1=>exact fun j u hj=>(HB.out.cell (Lib.lt_of_cell (HC.out j u hj))).trans (HC.out j u hj)
   case c3=>unfold maxLen; omega
   case c4=>omega
   case c5=>simp
   intro v' w2 hown' hgrow _ _
   have HG:=Lib.hid (Below.grown HB.out hgrow (by simp) (fun g hg=>by
    have h:some w.heap.size=some g:=hg
    injection h with h
    omega))
   have HW:=Lib.hid hown'
   clear hown' hgrow
   go_wp2
   go_ret
   exact ⟨HG.out,_,rfl,by simpa using HW.out⟩
def padH (n:Nat) (H:List Nat):List Nat:=H ++ List.replicate (n - H.length) 0
theorem padH_len (n:Nat) (H:List Nat):(padH n H).length=H.length+(n - H.length):=by unfold padH; rw [List.length_append,List.length_replicate]
theorem pad_own {B:Nat} {w:World} {v:Value} {H:List Nat} {n:Nat} (h:w.ownsRow B 33 1 v (H.length+(n - H.length)) (H.flatMap u32Cells ++ (List.replicate (n - H.length) 0).flatMap u32Cells)) (hlt:∀ x ∈ H,x < 4294967296):OwnHist B w v (padH n H):=by
 refine hist_of_own ?_ (fun x hx=>?_)
 · rw [padH_len]
   unfold padH
   rw [List.flatMap_append]
   exact h
 · unfold padH at hx
   rcases List.mem_append.1 hx with hx | hx
   · exact hlt x hx
   · rw [List.eq_of_mem_replicate hx]
     decide
theorem one_u32 (m:Nat):∀ u ∈ (Builtin.zeroCells (Value.int .u32 0).cells m).toList,u.oneCell'=true:=by
 intro u hu
 rw [zeros_u32] at hu
 obtain ⟨x,_,hx⟩:=List.mem_flatMap.1 hu
 rw [List.mem_singleton.1 hx]
 rfl
def RunAt (w:World) (n:Nat) (v:Value) (X:Se):Prop:=∃ vh ve vi,v=.agg #[.int .u32 ((bset X.a n:Nat):Int),vh,ve,vi,.int .i64 X.st]∧HistAt w vh X.hist∧NumsAt w ve X.env∧ListAt w vi X.ins
theorem RunAt.below {w w':World} {n:Nat} {v:Value} {X:Se} (h:RunAt w n v X) (hb:Below w.heap.size w w'):RunAt w' n v X:=by
 obtain ⟨vh,ve,vi,rfl,h1,h2,h3⟩:=h
 exact ⟨vh,ve,vi,rfl,h1.below hb,h2.below hb,h3.below hb⟩
set_option maxHeartbeats 8000000 in
set_option maxRecDepth 100000 in
theorem stepFrom_any (t:Nat) (C:Ch) (w:World) (hL:Laid w) (hT:TreeAt w t C) (hk:chk hasTB C=.ok) (hFw:fewB C=true) (a:Nat→Bool) (vh ve vi:Value) (H:List Nat) (env ins:List Int) (st:Int)
 (hH:HistAt w vh H) (hHl:H.length≤1000) (hE:NumsAt w ve env) (hEl:env.length≤1000) (hI:ListAt w vi ins) (hIl:ins.length≤100000) :
 Calls Tryz.prog 65 #[.pointer (some ⟨t,0,none⟩),.agg #[.int .u32 ((bset a C.sts.length:Nat):Int),vh,ve,vi,.int .i64 st]] w fun e w'=>∃ w0 g vs vt vh' ve' vi',e=.returned (.pointer (some ⟨g,0,none⟩))∧Below w.heap.size w w0∧Fx w0 t vs vt C ∧
  SeAt w0 (fun _=>none) t g vs vt C w' vh' ve' vi' (.slice none 0 0) ⟨a,padH C.sts.length H,env,ins,st,[]⟩:=by
 obtain ⟨iU,hi,hz0,hz1,hz2⟩:=info_parts Tryz.infoU
 have HI:=Lib.hid hi
 have HZ0:=Lib.hid hz0
 have HZ1:=Lib.hid hz1
 have HZ2:=Lib.hid hz2
 have hcl:=(tame_of hk).len
 obtain ⟨hA,hcap,rfl,hhcap⟩:=RowsAt.slice hH
 obtain ⟨eA,ecap,rfl,hecap⟩:=RowsAt.slice (rows_of_nums hE)
 obtain ⟨iA,icap,rfl,hicap⟩:=RowsAt.slice hI
 have hb0:=below_box w (.cells #[.int .u32 ((bset a C.sts.length:Nat):Int),.slice hA H.length hcap,.slice eA env.length ecap,.slice iA ins.length icap,.int .i64 st] 38)
 have HB0:=Lib.hid hb0
 have HBX:=Lib.hid (Blk.new w 38 #[.int .u32 ((bset a C.sts.length:Nat):Int),.slice hA H.length hcap,.slice eA env.length ecap,.slice iA ins.length icap,.int .i64 st])
 have HCH:=Lib.hid (chartT_any t C _ ((hT.below hb0).below (Below.refl _ _).drew) hFw)
 have HFX:=Lib.hid (fun (W:World) (vs vt:Value) (h:Below w.heap.size w W) (hc:ChHas W vs vt C)=>(⟨hL.after h,hT.below h,hc,hk,hFw⟩:Fx W t vs vt C))
 have HH:=Lib.hid hH
 have HE:=Lib.hid hE
 have HIN:=Lib.hid hI
 have HHL:=Lib.hid hHl
 have HEL:=Lib.hid hEl
 have HIL:=Lib.hid hIl
 have HCL:=Lib.hid hcl
 obtain ⟨m,hm⟩:∃ m,C.sts.length - H.length=m:=⟨_,rfl⟩
 have hmiss:IntKind.i64.wrap ((C.sts.length:Int) - (H.length:Int))=(C.sts.length:Int) - (H.length:Int):=by rw [IntKind.wrap_i64]; omega
 have hmax:max (0:Int) ((C.sts.length:Int) - (H.length:Int))=(m:Int):=by omega
 have HM:=Lib.hid hm
 obtain ⟨⟨x0,x1,x2,x3,x4⟩,-⟩:=blk5_facts HBX.out.drew
 clear hL hT hH hE hI hb0 hi hz0 hz1 hz2 hHl hEl hIl hm hhcap hecap hicap hcl hk hFw
 go_enter Tryz.func65,Tryz.ntmps65
 go_wp2_with fail
 refine anyD_start (fun W=>(W.cell? ⟨w.heap.size,0,none⟩=some (.int .u32 ((bset a C.sts.length:Nat):Int))∧W.cell? ⟨w.heap.size,1,none⟩=some (.slice hA H.length hcap)∧W.cell? ⟨w.heap.size,2,none⟩=some (.slice eA env.length ecap)∧W.cell? ⟨w.heap.size,3,none⟩=some (.slice iA ins.length icap)∧W.cell? ⟨w.heap.size,4,none⟩=some (.int .i64 st))) (fun i=>[].contains i) (by kernel_rfl) ?_
 try simp only [Act.put,sx]
 refine anyD_t 0 (.pointer (some ⟨t,0,none⟩)) ?_
 try simp only [Act.put,sx]
 refine anyD_t 1 (.pointer (some ⟨t,0,none⟩)) ?_
 try simp only [Act.put,sx]
 refine anyD_l 3 (.agg #[.int .u32 ((bset a C.sts.length:Nat):Int),.slice hA H.length hcap,.slice eA env.length ecap,.slice iA ins.length icap,.int .i64 st]) (⟨x0,x1,x2,x3,x4⟩) ?_
 try simp only [Act.put,sx]
 refine anyD_one (i:=2) rfl rfl (by kernel_rfl) (fun K HK=>?_)
 go_simp
 refine HCH.out.mono ?_
 rintro e w2 ⟨hb2,vs,vt,rfl,hown2⟩
 have HB2:Hid (Below w.heap.size w w2):=Lib.hid (HB0.out.drew.trans (hb2.mono (by simp)))
 have HHAS:=Lib.hid hown2.has
 obtain ⟨sA,scap,tA,tcap,rfl,rfl⟩:=hown2.has.slices
 have HX2:=Lib.hid (HBX.out.drew.below hb2 HBX.out.drew.lt)
 obtain ⟨⟨y0,y1,y2,y3,y4⟩,-⟩:=blk5_facts HX2.out
 have hwl:w.heap.size < w2.heap.size:=HX2.out.lt
 clear hb2 hown2 HBX HCH HB0 x0 x1 x2 x3 x4
 go_simp
 refine HK.out _ _ (fun _ hS=>⟨y0,y1,y2,y3,y4⟩) ?_
 clear HK K
 try simp only [Act.put,sx]
 refine anyD_t 4 (.agg #[.pointer (some ⟨t,0,none⟩),.int .i64 C.vars,.slice sA C.sts.length scap,.slice tA C.trs.length tcap,.int .u32 ((bset a C.sts.length:Nat):Int),.slice hA H.length hcap,.slice eA env.length ecap,.slice iA ins.length icap,.int .i64 st,.slice none 0 0]) ?_
 try simp only [Act.put,sx]
 have HY:=Lib.hid (Blk.new w2 121 #[.pointer (some ⟨t,0,none⟩),.int .i64 C.vars,.slice sA C.sts.length scap,.slice tA C.trs.length tcap,.int .u32 ((bset a C.sts.length:Nat):Int),.slice hA H.length hcap,.slice eA env.length ecap,.slice iA ins.length icap,.int .i64 st,.slice none 0 0])
 have HX3:=Lib.hid (HX2.out.alloc (.cells #[.pointer (some ⟨t,0,none⟩),.int .i64 C.vars,.slice sA C.sts.length scap,.slice tA C.trs.length tcap,.int .u32 ((bset a C.sts.length:Nat):Int),.slice hA H.length hcap,.slice eA env.length ecap,.slice iA ins.length icap,.int .i64 st,.slice none 0 0] 121))
 obtain ⟨⟨z0,z1,z2,z3,z4⟩,-⟩:=blk5_facts HX3.out
 refine anyD_one (i:=5) rfl rfl (by kernel_rfl) (fun K HK=>?_)
 go_simp
 go_simp
 refine HK.out _ _ (fun _ hS=>⟨z0,z1,z2,z3,z4⟩) ?_
 clear HK K
 try simp only [Act.put,sx]
 refine anyD_one (i:=6) rfl rfl (by kernel_rfl) (fun K HK=>?_)
 go_simp
 refine HK.out _ _ (fun _ hS=>⟨z0,z1,z2,z3,z4⟩) ?_
 clear HK K
 try simp only [Act.put,sx]
 refine anyD_done (by kernel_rfl) ?_
 clear z0 z1 z2 z3 z4
 have HB3:=Lib.hid (below_box w2 (.cells #[.pointer (some ⟨t,0,none⟩),.int .i64 C.vars,.slice sA C.sts.length scap,.slice tA C.trs.length tcap,.int .u32 ((bset a C.sts.length:Nat):Int),.slice hA H.length hcap,.slice eA env.length ecap,.slice iA ins.length icap,.int .i64 st,.slice none 0 0] 121))
 clear y0 y1 y2 y3 y4
 have z2:=HY.out.cell 2
 have z1:=HX3.out.cell 1
 generalize w2.alloc (.cells #[.pointer (some ⟨t,0,none⟩),.int .i64 C.vars,.slice sA C.sts.length scap,.slice tA C.trs.length tcap,.int .u32 ((bset a C.sts.length:Nat):Int),.slice hA H.length hcap,.slice eA env.length ecap,.slice iA ins.length icap,.int .i64 st,.slice none 0 0] 121)=w3 at *
 go_wp2_with fail
 refine anyD_start (fun W=>W.cell? ⟨w2.heap.size,2,none⟩=some (.slice sA C.sts.length scap)∧W.cell? ⟨w.heap.size,1,none⟩=some (.slice hA H.length hcap)) (fun i=>[].contains i) (by kernel_rfl) ?_
 try simp only [Act.put,sx]
 refine anyD_t 0 (.pointer (some ⟨w2.heap.size,0,none⟩)) ?_
 try simp only [Act.put,sx]
 refine anyD_t 1 (.pointer (some ⟨w2.heap.size,0,none⟩)) ?_
 try simp only [Act.put,sx]
 refine anyD_t 2 (.pointer (some ⟨w2.heap.size,1,none⟩)) ?_
 try simp only [Act.put,sx]
 refine anyD_t 3 (.pointer (some ⟨w2.heap.size,2,none⟩)) ?_
 try simp only [Act.put,sx]
 refine anyD_l 4 (.slice sA C.sts.length scap) (⟨z2,z1⟩) ?_
 try simp only [Act.put,sx]
 refine anyD_t 5 (.int .i64 (C.sts.length:Int)) ?_
 try simp only [Act.put,sx]
 refine anyD_t 6 (.pointer (some ⟨w.heap.size,1,none⟩)) ?_
 try simp only [Act.put,sx]
 refine anyD_l 7 (.slice hA H.length hcap) (⟨z2,z1⟩) ?_
 try simp only [Act.put,sx]
 refine anyD_t 8 (.int .i64 (H.length:Int)) ?_
 try simp only [Act.put,sx]
 refine anyD_one (i:=9) rfl rfl (by kernel_rfl) (fun K HK=>?_)
 go_simp
 go_simp
 refine HK.out _ _ (fun _ hS=>⟨z2,z1⟩) ?_
 clear HK K
 try simp only [Act.put,sx]
 refine anyD_one (i:=10) rfl rfl (by kernel_rfl) (fun K HK=>?_)
 go_simp
 go_simp
 refine HK.out _ _ (fun _ hS=>⟨z2,z1⟩) ?_
 clear HK K
 try simp only [Act.put,sx]
 refine anyD_one (i:=11) rfl rfl (by kernel_rfl) (fun K HK=>?_)
 go_simp
 go_simp
 refine HK.out _ _ (fun _ hS=>⟨z2,z1⟩) ?_
 clear HK K
 try simp only [Act.put,sx]
 refine anyD_done (by kernel_rfl) ?_
 have HCU:=Lib.hid (cloneU_any _ H w3.drew (HH.out.below ((HB2.out.trans (HB3.out.mono (by omega))).drew)) HHL.out)
 have y1:w3.drew.cell? ⟨w.heap.size,1,none⟩=some (.slice hA H.length hcap):=z1
 clear z1 z2
 go_wp2_with fail
 refine HCU.out.mono ?_
 rintro e w4 ⟨hb4,v4,rfl,hown4⟩
 obtain ⟨A4,cap4,rfl⟩:=own_slice hown4
 have h23:w2.heap.size≤w3.heap.size:=HB3.out.size
 have HB4:Hid (Below w2.heap.size w2 w4):=Lib.hid (HB3.out.drew.trans (hb4.mono h23))
 have HY4:=Lib.hid (HY.out.drew.below hb4 HY.out.drew.lt)
 have HX4:=Lib.hid (HX3.out.drew.below hb4 HX3.out.drew.lt)
 have HO4:=Lib.hid (own_lower hown4 h23)
 have h24:w2.heap.size≤w4.heap.size:=HB4.out.size
 clear hb4 hown4 y1
 go_wp2_with (at_builtin; refine wpList_append_zeros rfl _ _ 34 3 rfl w2.heap.size 33 iU (.int .u32 0) .i64 .i64 1 4 Tryz.underlying34 (by kernel_rfl) HI.out HZ0.out HZ1.out HZ2.out rfl (by decide) one_u32 _ H.length (H.flatMap u32Cells) rfl HO4.out m rfl ?c3 ?c4 ?c5 ?_)
 case c3=>have:=HM.out; have:=HHL.out; have:=HCL.out; unfold maxLen; omega
 case c4=>have:=HM.out; have:=HHL.out; have:=HCL.out; omega
 case c5=>exact h24
 intro v5 w5 hown5 hgrow5 h5
 obtain ⟨A5,cap5,rfl⟩:=own_slice hown5
 have HY5:=Lib.hid (blk_grown HY4.out HO4.out (by decide) hgrow5)
 have HX5:=Lib.hid (blk_grown HX4.out HO4.out (by decide) hgrow5)
 have HB5:=Lib.hid (grown_below (g:=w2.heap.size) HB4.out HO4.out h24 hgrow5)
 have HO5:Hid (w5.ownsRow w2.heap.size 33 1 (.slice A5 (H.length+m) cap5) (H.length+m) (H.flatMap u32Cells ++ (List.replicate m 0).flatMap u32Cells)):=Lib.hid (by rw [← zeros_u32]; exact hown5)
 have y5:=HY5.out.cell 5
 have f5:=HY5.out.frozen 5
 clear hown5 hgrow5 h5
 go_wp2_with fail
 have HY6:=Lib.hid (HY5.out.set_ 5 (.slice A5 (H.length+m) cap5))
 have HX6:=Lib.hid (HX5.out.set_ne (g':=w2.heap.size) (by omega) 5 (.slice A5 (H.length+m) cap5))
 have HB6:=Lib.hid (HB5.out.setCell (p:=⟨w2.heap.size,5,none⟩) (Nat.le_refl _) (.slice A5 (H.length+m) cap5))
 have HO6:=Lib.hid (own_apart HO5.out HY5.out (by decide) 5 (.slice A5 (H.length+m) cap5))
 clear y5 f5 HO5 HO4 HY5 HX5 HB5 HB4 HY4 HX4 HX3 HY HB3 HCU
 generalize w5.setCell ⟨w2.heap.size,5,none⟩ (.slice A5 (H.length+m) cap5)=w6 at *
 have z2:=HX6.out.drew.cell 2
 have z3:=HX6.out.drew.cell 3
 have HCE:=Lib.hid (clone_any _ env w6.drew (HE.out.below ((HB2.out.trans (HB6.out.mono (by omega))).drew)) HEL.out)
 refine anyD_start (fun W=>W.cell? ⟨w.heap.size,2,none⟩=some (.slice eA env.length ecap)∧W.cell? ⟨w.heap.size,3,none⟩=some (.slice iA ins.length icap)) (fun i=>[15].contains i) (by kernel_rfl) ?_
 try simp only [Act.put,sx]
 refine anyD_t 0 (.pointer (some ⟨w2.heap.size,0,none⟩)) ?_
 try simp only [Act.put,sx]
 refine anyD_t 1 (.pointer (some ⟨w2.heap.size,0,none⟩)) ?_
 try simp only [Act.put,sx]
 refine anyD_t 2 (.pointer (some ⟨w.heap.size,2,none⟩)) ?_
 try simp only [Act.put,sx]
 refine anyD_l 3 (.slice eA env.length ecap) (⟨z2,z3⟩) ?_
 try simp only [Act.put,sx]
 refine anyD_t 5 (.pointer (some ⟨w.heap.size,3,none⟩)) ?_
 try simp only [Act.put,sx]
 refine anyD_l 6 (.slice iA ins.length icap) (⟨z2,z3⟩) ?_
 try simp only [Act.put,sx]
 refine anyD_one (i:=4) rfl rfl (by kernel_rfl) (fun K HK=>?_)
 go_simp
 refine HCE.out.mono ?_
 rintro e w7 ⟨hb7,v7,rfl,hown7⟩
 obtain ⟨A7,cap7,rfl⟩:=hown7.slice
 have h26:w2.heap.size≤w6.heap.size:=HB6.out.size
 have HB7:Hid (Below w2.heap.size w2 w7):=Lib.hid (HB6.out.drew.trans (hb7.mono h26))
 have HY7:=Lib.hid (HY6.out.drew.below hb7 HY6.out.drew.lt)
 have HX7:=Lib.hid (HX6.out.drew.below hb7 HX6.out.drew.lt)
 have HO7:=Lib.hid (own_below (own_below HO6.out (Below.refl _ _).drew) hb7)
 have HE7:=Lib.hid (RowAt.lower hown7 h26)
 have HCI:=Lib.hid (cloneI_any _ ins w7 (HIN.out.below (HB2.out.trans (HB7.out.mono (by omega)))) (by have:=HIL.out; omega))
 have s2:=HX7.out.cell 2
 have s3:=HX7.out.cell 3
 clear hb7 hown7
 go_simp
 refine HK.out _ _ (fun _ hS=>⟨s2,s3⟩) ?_
 clear HK K
 try simp only [Act.put,sx]
 refine anyD_one (i:=7) rfl rfl (by kernel_rfl) (fun K HK=>?_)
 go_simp
 refine HCI.out.mono ?_
 rintro e w8 ⟨hb8,v8,rfl,hown8⟩
 obtain ⟨A8,cap8,rfl⟩:=own_slice hown8
 have h27:w2.heap.size≤w7.heap.size:=HB7.out.size
 have HB8:Hid (Below w2.heap.size w2 w8):=Lib.hid (HB7.out.trans (hb8.mono h27))
 have HY8:=Lib.hid (HY7.out.below hb8 HY7.out.lt)
 have HX8:=Lib.hid (HX7.out.below hb8 HX7.out.lt)
 have HO8:=Lib.hid (own_below HO7.out hb8)
 have HE8:=Lib.hid (RowAt.below HE7.out hb8)
 have HI8:=Lib.hid (own_lower hown8 h27)
 have r2:=HX8.out.cell 2
 have r3:=HX8.out.cell 3
 clear hb8 hown8
 go_simp
 refine HK.out _ _ (fun _ hS=>⟨r2,r3⟩) ?_
 clear HK K
 try simp only [Act.put,sx]
 have q6:=HY8.out.cell 6
 have f6:=HY8.out.frozen 6
 have q7:=HY8.out.cell 7
 have f7:=HY8.out.frozen 7
 refine anyD_t 8 (.pointer (some ⟨w2.heap.size,0,none⟩)) ?_
 try simp only [Act.put,sx]
 refine anyD_t 9 (.pointer (some ⟨w2.heap.size,4,none⟩)) ?_
 try simp only [Act.put,sx]
 refine anyD_t 10 (.pointer (some ⟨w2.heap.size,6,none⟩)) ?_
 try simp only [Act.put,sx]
 have HX9:=Lib.hid (HX8.out.set_ne (g':=w2.heap.size) (by omega) 6 (.slice A7 env.length cap7))
 have n2:=HX9.out.cell 2
 have n3:=HX9.out.cell 3
 refine anyD_one (i:=11) rfl rfl (by kernel_rfl) (fun K HK=>?_)
 go_simp
 go_simp
 refine HK.out _ _ (fun _ hS=>⟨n2,n3⟩) ?_
 clear HK K
 try simp only [Act.put,sx]
 clear n2 n3
 refine anyD_t 12 (.pointer (some ⟨w2.heap.size,0,none⟩)) ?_
 try simp only [Act.put,sx]
 refine anyD_t 13 (.pointer (some ⟨w2.heap.size,4,none⟩)) ?_
 try simp only [Act.put,sx]
 refine anyD_t 14 (.pointer (some ⟨w2.heap.size,7,none⟩)) ?_
 try simp only [Act.put,sx]
 refine anyD_one (i:=15) rfl rfl (by kernel_rfl) (fun K HK=>?_)
 go_simp
 go_simp
 refine HK.out _ _ (fun h=>absurd h (by decide)) ?_
 clear HK K
 try simp only [Act.put,sx]
 refine anyD_done (by kernel_rfl) ?_
 go_wp2_with fail
 go_ret
 have hrow:RwAt w2.heap.size w8 (.slice A5 (H.length+m) cap5) (.slice A7 env.length cap7) (.slice A8 ins.length cap8) (.slice none 0 0) ⟨a,padH C.sts.length H,env,ins,st,[]⟩:=by
  refine ⟨pad_own ?_ HH.out.lt,HE8.out,HI8.out,World.ownsRow_nil _ _ _ _⟩
  rw [HM.out]
  exact HO8.out
 have hblk:=(HY8.out.set_ 6 (.slice A7 env.length cap7)).set_ 7 (.slice A8 ins.length cap8)
 have hbel:=(HB8.out.setCell (p:=⟨w2.heap.size,6,none⟩) (Nat.le_refl _) (.slice A7 env.length cap7)).setCell (p:=⟨w2.heap.size,7,none⟩) (Nat.le_refl _) (.slice A8 ins.length cap8)
 have hr2:=hrow.apart HY8.out (by decide) (by decide) (by decide) (by decide) 6 (.slice A7 env.length cap7)
 have hr3:=hr2.apart (HY8.out.set_ 6 (.slice A7 env.length cap7)) (by decide) (by decide) (by decide) (by decide) 7 (.slice A8 ins.length cap8)
 exact ⟨w2,w2.heap.size,_,_,_,_,_,rfl,HB2.out,HFX.out w2 _ _ HB2.out HHAS.out,hbel,Nat.le_refl _,hblk,hr3,fun k o hM=>by cases hM⟩
end Go.Proofs.YtmhkpjcdkjnlnaaGreatDoor
