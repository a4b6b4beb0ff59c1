/- The contracts of slices.Clone over histories and numbers, and of micro's stepFrom, Begin, First. -/
import Derived.Test.YtfgkcjmeiabdjaaGreatDoorFIze
import Derived.Test.YtfgkcjmeiabdjaaGreatDoorFArw
import Derived.Test.YtfgkcjmeiabdjaaGreatDoorFSrr
namespace Go.Proofs.YtfgkcjmeiabdjaaGreatDoor
open Go.ChangeShapes Go.WideShapes Go.ChangeAt Go.RowKit
set_option linter.unusedVariables false

theorem Tryz.infoU:(Tryz.prog.info? 33).map (fun i=>(i.zero,i.size,i.bytes))=some (some (.int .u32 0),1,4):=by kernel_rfl
theorem nilU_yes (c:Nat) (w:World):(binOp .eql 34 (.slice none 0 c) (.slice none 0 0)).run Tryz.prog w=.ok (.bool true) w:=by kernel_rfl
theorem nilU_no (ad:Addr) (n c:Nat) (w:World):(binOp .eql 34 (.slice (some ad) n c) (.slice none 0 0)).run Tryz.prog w=.ok (.bool false) w:=by kernel_rfl
theorem nilI_yes (c:Nat) (w:World):(binOp .eql 36 (.slice none 0 c) (.slice none 0 0)).run Tryz.prog w=.ok (.bool true) w:=by kernel_rfl
theorem nilI_no (ad:Addr) (n c:Nat) (w:World):(binOp .eql 36 (.slice (some ad) n c) (.slice none 0 0)).run Tryz.prog w=.ok (.bool false) w:=by kernel_rfl
theorem nilT_yes (w:World):(binOp .eql 28 (.pointer none) (.pointer none)).run Tryz.prog w=.ok (.bool true) w:=by kernel_rfl
theorem nilT_no (t:Nat) (w:World):(binOp .eql 28 (.pointer (some ⟨t,0,none⟩)) (.pointer none)).run Tryz.prog w=.ok (.bool false) w:=by kernel_rfl
theorem rowIs_hist {w:World} {v:Value} {H:List Nat} (h:HistAt w v H):RowIs w 1 v H.length (H.flatMap u32Cells) :=
  rowIs_of (cells:=u32Cells) (fun _=>rfl) (by decide) h (fun b o x hp j u hu=>by
    cases j with
    | zero=>simp at hu; subst hu; exact hp.1
    | succ j=>simp at hu) (fun x _ u hu=>one_mem rfl hu)
theorem HistAt.lt {w:World} {v:Value} {H:List Nat} (h:HistAt w v H):∀ x ∈ H,x < 4294967296:=fun x hx=>by
  obtain ⟨b,o,hp⟩:=RowsAt.mem h x hx
  exact hp.2
theorem hist_of_own {B:Nat} {w:World} {v:Value} {H:List Nat} (h:w.ownsRow B 33 1 v H.length (H.flatMap u32Cells)) (hlt:∀ x ∈ H,x < 4294967296):OwnHist B w v H:=⟨RowAt.of_own (cells:=u32Cells) (fun _=>rfl) h,hlt⟩
set_option maxHeartbeats 4000000 in
set_option maxRecDepth 100000 in
theorem cloneU_any (v:Value) (H:List Nat) (w:World) (h:HistAt w v H) (hl:H.length≤1000) :
    Calls Tryz.prog 61 #[v] w fun e w'=>Below w.heap.size w w'∧∃ v',e=.returned v'∧w'.ownsRow w.heap.size 33 1 v' H.length (H.flatMap u32Cells):=by
  have hr:=rowIs_hist h
  clear h
  obtain ⟨hn,⟨c,rfl,h0⟩ | ⟨ad,cap,rfl,hc,ho⟩⟩:=hr
  · obtain rfl:H=[]:=List.eq_nil_of_length_eq_zero h0
    have hnil:=fun W=>nilU_yes c W
    clear hn h0 hl
    go_enter Tryz.func61,Tryz.ntmps61
    go_wp2_with fail
    go_ret
    exact ⟨Below.refl _ _,_,rfl,World.ownsRow_nil _ _ _ _⟩
  · obtain ⟨i0,hi,hz0,hz1,hz2⟩:=info_parts Tryz.infoU
    have HI:=Lib.hid hi
    have HZ0:=Lib.hid hz0
    have HZ1:=Lib.hid hz1
    have HZ2:=Lib.hid hz2
    have HN:=Lib.hid hn
    have HB:=Lib.hid (below_box w (.cells #[] 33))
    have HC:=Lib.hid (fun (j:Nat) (u:Value) (hj:(H.flatMap u32Cells)[j]?=some u)=>(hc j u hj))
    have HO:=Lib.hid ho
    have hnil:=fun W=>nilU_no ad H.length cap W
    clear hi hz0 hz1 hz2 hn hc ho
    go_enter Tryz.func61,Tryz.ntmps61
    go_wp2_with (at_builtin; refine wpList_append_own_at _ rfl _ _ 34 rfl w.heap.size 33 i0 (.int .u32 0) 1 4 Tryz.underlying34 HI.out HZ0.out HZ1.out HZ2.out rfl (by decide) _ 0 [] rfl (own_zero w 33 1) ad H.length cap (H.flatMap u32Cells) rfl HN.out ?c1 HO.out ?c3 ?c4 ?c5 ?_)
    case c1=>exact fun j u hj=>(HB.out.cell (Lib.lt_of_cell (HC.out j u hj))).trans (HC.out j u hj)
    case c3=>unfold maxLen; omega
    case c4=>omega
    case c5=>simp
    intro v' w2 hown' hgrow _ _
    have HG:=Lib.hid (Below.grown HB.out hgrow (by simp) (fun g hg=>by
      have h:some w.heap.size=some g:=hg
      injection h with h
      omega))
    have HW:=Lib.hid hown'
    clear hown' hgrow
    go_wp2
    go_ret
    exact ⟨HG.out,_,rfl,by simpa using HW.out⟩
set_option maxHeartbeats 4000000 in
set_option maxRecDepth 100000 in
theorem cloneI_any (v:Value) (L:List Int) (w:World) (h:ListAt w v L) (hl:L.length≤100000) :
    Calls Tryz.prog 63 #[v] w fun e w'=>Below w.heap.size w w'∧∃ v',e=.returned v'∧w'.ownsRow w.heap.size 3 1 v' L.length (intVals L):=by
  have hr:=rowIs_ints h
  clear h
  obtain ⟨hn,⟨c,rfl,h0⟩ | ⟨ad,cap,rfl,hc,ho⟩⟩:=hr
  · obtain rfl:L=[]:=List.eq_nil_of_length_eq_zero h0
    have hnil:=fun W=>nilI_yes c W
    clear hn h0 hl
    go_enter Tryz.func63,Tryz.ntmps63
    go_wp2_with fail
    go_ret
    exact ⟨Below.refl _ _,_,rfl,World.ownsRow_nil _ _ _ _⟩
  · obtain ⟨i0,hi,hz0,hz1,hz2⟩:=info_parts Tryz.info3
    have HI:=Lib.hid hi
    have HZ0:=Lib.hid hz0
    have HZ1:=Lib.hid hz1
    have HZ2:=Lib.hid hz2
    have HN:=Lib.hid hn
    have HB:=Lib.hid (below_box w (.cells #[] 3))
    have HC:=Lib.hid (fun (j:Nat) (u:Value) (hj:(intVals L)[j]?=some u)=>(hc j u hj))
    have HO:=Lib.hid ho
    have hnil:=fun W=>nilI_no ad L.length cap W
    clear hi hz0 hz1 hz2 hn hc ho
    go_enter Tryz.func63,Tryz.ntmps63
    go_wp2_with (at_builtin; refine wpList_append_own_at _ rfl _ _ 36 rfl w.heap.size 3 i0 (.int .i64 0) 1 8 Tryz.underlying36 HI.out HZ0.out HZ1.out HZ2.out rfl (by decide) _ 0 [] rfl (own_zero w 3 1) ad L.length cap (intVals L) rfl HN.out ?c1 HO.out ?c3 ?c4 ?c5 ?_)
    case c1=>exact fun j u hj=>(HB.out.cell (Lib.lt_of_cell (HC.out j u hj))).trans (HC.out j u hj)
    case c3=>unfold maxLen; omega
    case c4=>omega
    case c5=>simp
    intro v' w2 hown' hgrow _ _
    have HG:=Lib.hid (Below.grown HB.out hgrow (by simp) (fun g hg=>by
      have h:some w.heap.size=some g:=hg
      injection h with h
      omega))
    have HW:=Lib.hid hown'
    clear hown' hgrow
    go_wp2
    go_ret
    exact ⟨HG.out,_,rfl,by simpa using HW.out⟩
def padH (n:Nat) (H:List Nat):List Nat:=H ++ List.replicate (n - H.length) 0
theorem padH_len (n:Nat) (H:List Nat):(padH n H).length=H.length+(n - H.length):=by unfold padH; rw [List.length_append,List.length_replicate]
theorem pad_own {B:Nat} {w:World} {v:Value} {H:List Nat} {n:Nat} (h:w.ownsRow B 33 1 v (H.length+(n - H.length)) (H.flatMap u32Cells ++ (List.replicate (n - H.length) 0).flatMap u32Cells)) (hlt:∀ x ∈ H,x < 4294967296):OwnHist B w v (padH n H):=by
  refine hist_of_own ?_ (fun x hx=>?_)
  · rw [padH_len]
    unfold padH
    rw [List.flatMap_append]
    exact h
  · unfold padH at hx
    rcases List.mem_append.1 hx with hx | hx
    · exact hlt x hx
    · rw [List.eq_of_mem_replicate hx]
      decide
theorem one_u32 (m:Nat):∀ u ∈ (Builtin.zeroCells (Value.int .u32 0).cells m).toList,u.oneCell'=true:=by
  intro u hu
  rw [zeros_u32] at hu
  obtain ⟨x,_,hx⟩:=List.mem_flatMap.1 hu
  rw [List.mem_singleton.1 hx]
  rfl
def RunAt (w:World) (n:Nat) (v:Value) (X:Se):Prop:=∃ vh ve vi,v=.agg #[.int .u32 ((bset X.a n:Nat):Int),vh,ve,vi,.int .i64 X.st]∧HistAt w vh X.hist∧NumsAt w ve X.env∧ListAt w vi X.ins
theorem RunAt.below {w w':World} {n:Nat} {v:Value} {X:Se} (h:RunAt w n v X) (hb:Below w.heap.size w w'):RunAt w' n v X:=by
  obtain ⟨vh,ve,vi,rfl,h1,h2,h3⟩:=h
  exact ⟨vh,ve,vi,rfl,h1.below hb,h2.below hb,h3.below hb⟩
set_option maxHeartbeats 8000000 in
set_option maxRecDepth 100000 in
theorem stepFrom_any (t:Nat) (C:Ch) (w:World) (hL:Laid w) (hT:TreeAt w t C) (hk:chk hasTB C=.ok) (hFw:fewB C=true) (a:Nat→Bool) (vh ve vi:Value) (H:List Nat) (env ins:List Int) (st:Int)
    (hH:HistAt w vh H) (hHl:H.length≤1000) (hE:NumsAt w ve env) (hEl:env.length≤1000) (hI:ListAt w vi ins) (hIl:ins.length≤1000) :
    Calls Tryz.prog 23 #[.pointer (some ⟨t,0,none⟩),.agg #[.int .u32 ((bset a C.sts.length:Nat):Int),vh,ve,vi,.int .i64 st]] w fun e w'=>∃ w0 g vs vt vh' ve' vi',e=.returned (.pointer (some ⟨g,0,none⟩))∧Below w.heap.size w w0∧Fx w0 t vs vt C ∧
      SeAt w0 (fun _=>none) t g vs vt C w' vh' ve' vi' (.slice none 0 0) ⟨a,padH C.sts.length H,env,ins,st,[]⟩:=by
  obtain ⟨iU,hi,hz0,hz1,hz2⟩:=info_parts Tryz.infoU
  have HI:=Lib.hid hi
  have HZ0:=Lib.hid hz0
  have HZ1:=Lib.hid hz1
  have HZ2:=Lib.hid hz2
  have hcl:=(tame_of hk).len
  obtain ⟨hA,hcap,rfl,hhcap⟩:=RowsAt.slice hH
  obtain ⟨eA,ecap,rfl,hecap⟩:=RowsAt.slice (rows_of_nums hE)
  obtain ⟨iA,icap,rfl,hicap⟩:=RowsAt.slice hI
  have hb0:=below_box w (.cells #[.int .u32 ((bset a C.sts.length:Nat):Int),.slice hA H.length hcap,.slice eA env.length ecap,.slice iA ins.length icap,.int .i64 st] 38)
  have HB0:=Lib.hid hb0
  have HBX:=Lib.hid (Blk.new w 38 #[.int .u32 ((bset a C.sts.length:Nat):Int),.slice hA H.length hcap,.slice eA env.length ecap,.slice iA ins.length icap,.int .i64 st])
  have HCH:=Lib.hid (chartT_any t C _ ((hT.below hb0).below (Below.refl _ _).drew) hFw)
  have HFX:=Lib.hid (fun (W:World) (vs vt:Value) (h:Below w.heap.size w W) (hc:ChHas W vs vt C)=>(⟨hL.after h,hT.below h,hc,hk,hFw⟩:Fx W t vs vt C))
  have HH:=Lib.hid hH
  have HE:=Lib.hid hE
  have HIN:=Lib.hid hI
  have HHL:=Lib.hid hHl
  have HEL:=Lib.hid hEl
  have HIL:=Lib.hid hIl
  have HCL:=Lib.hid hcl
  obtain ⟨m,hm⟩:∃ m,C.sts.length - H.length=m:=⟨_,rfl⟩
  have hmiss:IntKind.i64.wrap ((C.sts.length:Int) - (H.length:Int))=(C.sts.length:Int) - (H.length:Int):=by rw [IntKind.wrap_i64]; omega
  have hmax:max (0:Int) ((C.sts.length:Int) - (H.length:Int))=(m:Int):=by omega
  have HM:=Lib.hid hm
  obtain ⟨⟨x0,x1,x2,x3,x4⟩,-⟩:=blk5_facts HBX.out.drew
  clear hL hT hH hE hI hb0 hi hz0 hz1 hz2 hHl hEl hIl hm hhcap hecap hicap hcl hk hFw
  go_enter Tryz.func23,Tryz.ntmps23
  go_wp2_with fail
  refine anyD_start (fun W=>(W.cell? ⟨w.heap.size,0,none⟩=some (.int .u32 ((bset a C.sts.length:Nat):Int))∧W.cell? ⟨w.heap.size,1,none⟩=some (.slice hA H.length hcap)∧W.cell? ⟨w.heap.size,2,none⟩=some (.slice eA env.length ecap)∧W.cell? ⟨w.heap.size,3,none⟩=some (.slice iA ins.length icap)∧W.cell? ⟨w.heap.size,4,none⟩=some (.int .i64 st))) (fun i=>[].contains i) (by kernel_rfl) ?_
  try simp only [Act.put,sx]
  refine anyD_t 0 (.pointer (some ⟨t,0,none⟩)) ?_
  try simp only [Act.put,sx]
  refine anyD_t 1 (.pointer (some ⟨t,0,none⟩)) ?_
  try simp only [Act.put,sx]
  refine anyD_l 3 (.agg #[.int .u32 ((bset a C.sts.length:Nat):Int),.slice hA H.length hcap,.slice eA env.length ecap,.slice iA ins.length icap,.int .i64 st]) (⟨x0,x1,x2,x3,x4⟩) ?_
  try simp only [Act.put,sx]
  refine anyD_one (i:=2) rfl rfl (by kernel_rfl) (fun K HK=>?_)
  go_simp
  refine HCH.out.mono ?_
  rintro e w2 ⟨hb2,vs,vt,rfl,hown2⟩
  have HB2:Hid (Below w.heap.size w w2):=Lib.hid (HB0.out.drew.trans (hb2.mono (by simp)))
  have HHAS:=Lib.hid hown2.has
  obtain ⟨sA,scap,tA,tcap,rfl,rfl⟩:=hown2.has.slices
  have HX2:=Lib.hid (HBX.out.drew.below hb2 HBX.out.drew.lt)
  obtain ⟨⟨y0,y1,y2,y3,y4⟩,-⟩:=blk5_facts HX2.out
  have hwl:w.heap.size < w2.heap.size:=HX2.out.lt
  clear hb2 hown2 HBX HCH HB0 x0 x1 x2 x3 x4
  go_simp
  refine HK.out _ _ (fun _ hS=>⟨y0,y1,y2,y3,y4⟩) ?_
  clear HK K
  try simp only [Act.put,sx]
  refine anyD_t 4 (.agg #[.pointer (some ⟨t,0,none⟩),.int .i64 C.vars,.slice sA C.sts.length scap,.slice tA C.trs.length tcap,.int .u32 ((bset a C.sts.length:Nat):Int),.slice hA H.length hcap,.slice eA env.length ecap,.slice iA ins.length icap,.int .i64 st,.slice none 0 0]) ?_
  try simp only [Act.put,sx]
  have HY:=Lib.hid (Blk.new w2 75 #[.pointer (some ⟨t,0,none⟩),.int .i64 C.vars,.slice sA C.sts.length scap,.slice tA C.trs.length tcap,.int .u32 ((bset a C.sts.length:Nat):Int),.slice hA H.length hcap,.slice eA env.length ecap,.slice iA ins.length icap,.int .i64 st,.slice none 0 0])
  have HX3:=Lib.hid (HX2.out.alloc (.cells #[.pointer (some ⟨t,0,none⟩),.int .i64 C.vars,.slice sA C.sts.length scap,.slice tA C.trs.length tcap,.int .u32 ((bset a C.sts.length:Nat):Int),.slice hA H.length hcap,.slice eA env.length ecap,.slice iA ins.length icap,.int .i64 st,.slice none 0 0] 75))
  obtain ⟨⟨z0,z1,z2,z3,z4⟩,-⟩:=blk5_facts HX3.out
  refine anyD_one (i:=5) rfl rfl (by kernel_rfl) (fun K HK=>?_)
  go_simp
  go_simp
  refine HK.out _ _ (fun _ hS=>⟨z0,z1,z2,z3,z4⟩) ?_
  clear HK K
  try simp only [Act.put,sx]
  refine anyD_one (i:=6) rfl rfl (by kernel_rfl) (fun K HK=>?_)
  go_simp
  refine HK.out _ _ (fun _ hS=>⟨z0,z1,z2,z3,z4⟩) ?_
  clear HK K
  try simp only [Act.put,sx]
  refine anyD_done (by kernel_rfl) ?_
  clear z0 z1 z2 z3 z4
  have HB3:=Lib.hid (below_box w2 (.cells #[.pointer (some ⟨t,0,none⟩),.int .i64 C.vars,.slice sA C.sts.length scap,.slice tA C.trs.length tcap,.int .u32 ((bset a C.sts.length:Nat):Int),.slice hA H.length hcap,.slice eA env.length ecap,.slice iA ins.length icap,.int .i64 st,.slice none 0 0] 75))
  clear y0 y1 y2 y3 y4
  have z2:=HY.out.cell 2
  have z1:=HX3.out.cell 1
  generalize w2.alloc (.cells #[.pointer (some ⟨t,0,none⟩),.int .i64 C.vars,.slice sA C.sts.length scap,.slice tA C.trs.length tcap,.int .u32 ((bset a C.sts.length:Nat):Int),.slice hA H.length hcap,.slice eA env.length ecap,.slice iA ins.length icap,.int .i64 st,.slice none 0 0] 75)=w3 at *
  go_wp2_with fail
  refine anyD_start (fun W=>W.cell? ⟨w2.heap.size,2,none⟩=some (.slice sA C.sts.length scap)∧W.cell? ⟨w.heap.size,1,none⟩=some (.slice hA H.length hcap)) (fun i=>[].contains i) (by kernel_rfl) ?_
  try simp only [Act.put,sx]
  refine anyD_t 0 (.pointer (some ⟨w2.heap.size,0,none⟩)) ?_
  try simp only [Act.put,sx]
  refine anyD_t 1 (.pointer (some ⟨w2.heap.size,0,none⟩)) ?_
  try simp only [Act.put,sx]
  refine anyD_t 2 (.pointer (some ⟨w2.heap.size,1,none⟩)) ?_
  try simp only [Act.put,sx]
  refine anyD_t 3 (.pointer (some ⟨w2.heap.size,2,none⟩)) ?_
  try simp only [Act.put,sx]
  refine anyD_l 4 (.slice sA C.sts.length scap) (⟨z2,z1⟩) ?_
  try simp only [Act.put,sx]
  refine anyD_t 5 (.int .i64 (C.sts.length:Int)) ?_
  try simp only [Act.put,sx]
  refine anyD_t 6 (.pointer (some ⟨w.heap.size,1,none⟩)) ?_
  try simp only [Act.put,sx]
  refine anyD_l 7 (.slice hA H.length hcap) (⟨z2,z1⟩) ?_
  try simp only [Act.put,sx]
  refine anyD_t 8 (.int .i64 (H.length:Int)) ?_
  try simp only [Act.put,sx]
  refine anyD_one (i:=9) rfl rfl (by kernel_rfl) (fun K HK=>?_)
  go_simp
  go_simp
  refine HK.out _ _ (fun _ hS=>⟨z2,z1⟩) ?_
  clear HK K
  try simp only [Act.put,sx]
  refine anyD_one (i:=10) rfl rfl (by kernel_rfl) (fun K HK=>?_)
  go_simp
  go_simp
  refine HK.out _ _ (fun _ hS=>⟨z2,z1⟩) ?_
  clear HK K
  try simp only [Act.put,sx]
  refine anyD_one (i:=11) rfl rfl (by kernel_rfl) (fun K HK=>?_)
  go_simp
  go_simp
  refine HK.out _ _ (fun _ hS=>⟨z2,z1⟩) ?_
  clear HK K
  try simp only [Act.put,sx]
  refine anyD_done (by kernel_rfl) ?_
  have HCU:=Lib.hid (cloneU_any _ H w3.drew (HH.out.below ((HB2.out.trans (HB3.out.mono (by omega))).drew)) HHL.out)
  have y1:w3.drew.cell? ⟨w.heap.size,1,none⟩=some (.slice hA H.length hcap):=z1
  clear z1 z2
  go_wp2_with fail
  refine HCU.out.mono ?_
  rintro e w4 ⟨hb4,v4,rfl,hown4⟩
  obtain ⟨A4,cap4,rfl⟩:=own_slice hown4
  have h23:w2.heap.size≤w3.heap.size:=HB3.out.size
  have HB4:Hid (Below w2.heap.size w2 w4):=Lib.hid (HB3.out.drew.trans (hb4.mono h23))
  have HY4:=Lib.hid (HY.out.drew.below hb4 HY.out.drew.lt)
  have HX4:=Lib.hid (HX3.out.drew.below hb4 HX3.out.drew.lt)
  have HO4:=Lib.hid (own_lower hown4 h23)
  have h24:w2.heap.size≤w4.heap.size:=HB4.out.size
  clear hb4 hown4 y1
  go_wp2_with (at_builtin; refine wpList_append_zeros rfl _ _ 34 3 rfl w2.heap.size 33 iU (.int .u32 0) .i64 .i64 1 4 Tryz.underlying34 (by kernel_rfl) HI.out HZ0.out HZ1.out HZ2.out rfl (by decide) one_u32 _ H.length (H.flatMap u32Cells) rfl HO4.out m rfl ?c3 ?c4 ?c5 ?_)
  case c3=>have:=HM.out; have:=HHL.out; have:=HCL.out; unfold maxLen; omega
  case c4=>have:=HM.out; have:=HHL.out; have:=HCL.out; omega
  case c5=>exact h24
  intro v5 w5 hown5 hgrow5 h5
  obtain ⟨A5,cap5,rfl⟩:=own_slice hown5
  have HY5:=Lib.hid (blk_grown HY4.out HO4.out (by decide) hgrow5)
  have HX5:=Lib.hid (blk_grown HX4.out HO4.out (by decide) hgrow5)
  have HB5:=Lib.hid (grown_below (g:=w2.heap.size) HB4.out HO4.out h24 hgrow5)
  have HO5:Hid (w5.ownsRow w2.heap.size 33 1 (.slice A5 (H.length+m) cap5) (H.length+m) (H.flatMap u32Cells ++ (List.replicate m 0).flatMap u32Cells)):=Lib.hid (by rw [← zeros_u32]; exact hown5)
  have y5:=HY5.out.cell 5
  have f5:=HY5.out.frozen 5
  clear hown5 hgrow5 h5
  go_wp2_with fail
  have HY6:=Lib.hid (HY5.out.set_ 5 (.slice A5 (H.length+m) cap5))
  have HX6:=Lib.hid (HX5.out.set_ne (g':=w2.heap.size) (by omega) 5 (.slice A5 (H.length+m) cap5))
  have HB6:=Lib.hid (HB5.out.setCell (p:=⟨w2.heap.size,5,none⟩) (Nat.le_refl _) (.slice A5 (H.length+m) cap5))
  have HO6:=Lib.hid (own_apart HO5.out HY5.out (by decide) 5 (.slice A5 (H.length+m) cap5))
  clear y5 f5 HO5 HO4 HY5 HX5 HB5 HB4 HY4 HX4 HX3 HY HB3 HCU
  generalize w5.setCell ⟨w2.heap.size,5,none⟩ (.slice A5 (H.length+m) cap5)=w6 at *
  have z2:=HX6.out.drew.cell 2
  have z3:=HX6.out.drew.cell 3
  have HCE:=Lib.hid (clone_any _ env w6.drew (HE.out.below ((HB2.out.trans (HB6.out.mono (by omega))).drew)) HEL.out)
  refine anyD_start (fun W=>W.cell? ⟨w.heap.size,2,none⟩=some (.slice eA env.length ecap)∧W.cell? ⟨w.heap.size,3,none⟩=some (.slice iA ins.length icap)) (fun i=>[15].contains i) (by kernel_rfl) ?_
  try simp only [Act.put,sx]
  refine anyD_t 0 (.pointer (some ⟨w2.heap.size,0,none⟩)) ?_
  try simp only [Act.put,sx]
  refine anyD_t 1 (.pointer (some ⟨w2.heap.size,0,none⟩)) ?_
  try simp only [Act.put,sx]
  refine anyD_t 2 (.pointer (some ⟨w.heap.size,2,none⟩)) ?_
  try simp only [Act.put,sx]
  refine anyD_l 3 (.slice eA env.length ecap) (⟨z2,z3⟩) ?_
  try simp only [Act.put,sx]
  refine anyD_t 5 (.pointer (some ⟨w.heap.size,3,none⟩)) ?_
  try simp only [Act.put,sx]
  refine anyD_l 6 (.slice iA ins.length icap) (⟨z2,z3⟩) ?_
  try simp only [Act.put,sx]
  refine anyD_one (i:=4) rfl rfl (by kernel_rfl) (fun K HK=>?_)
  go_simp
  refine HCE.out.mono ?_
  rintro e w7 ⟨hb7,v7,rfl,hown7⟩
  obtain ⟨A7,cap7,rfl⟩:=hown7.slice
  have h26:w2.heap.size≤w6.heap.size:=HB6.out.size
  have HB7:Hid (Below w2.heap.size w2 w7):=Lib.hid (HB6.out.drew.trans (hb7.mono h26))
  have HY7:=Lib.hid (HY6.out.drew.below hb7 HY6.out.drew.lt)
  have HX7:=Lib.hid (HX6.out.drew.below hb7 HX6.out.drew.lt)
  have HO7:=Lib.hid (own_below (own_below HO6.out (Below.refl _ _).drew) hb7)
  have HE7:=Lib.hid (RowAt.lower hown7 h26)
  have HCI:=Lib.hid (cloneI_any _ ins w7 (HIN.out.below (HB2.out.trans (HB7.out.mono (by omega)))) (by have:=HIL.out; omega))
  have s2:=HX7.out.cell 2
  have s3:=HX7.out.cell 3
  clear hb7 hown7
  go_simp
  refine HK.out _ _ (fun _ hS=>⟨s2,s3⟩) ?_
  clear HK K
  try simp only [Act.put,sx]
  refine anyD_one (i:=7) rfl rfl (by kernel_rfl) (fun K HK=>?_)
  go_simp
  refine HCI.out.mono ?_
  rintro e w8 ⟨hb8,v8,rfl,hown8⟩
  obtain ⟨A8,cap8,rfl⟩:=own_slice hown8
  have h27:w2.heap.size≤w7.heap.size:=HB7.out.size
  have HB8:Hid (Below w2.heap.size w2 w8):=Lib.hid (HB7.out.trans (hb8.mono h27))
  have HY8:=Lib.hid (HY7.out.below hb8 HY7.out.lt)
  have HX8:=Lib.hid (HX7.out.below hb8 HX7.out.lt)
  have HO8:=Lib.hid (own_below HO7.out hb8)
  have HE8:=Lib.hid (RowAt.below HE7.out hb8)
  have HI8:=Lib.hid (own_lower hown8 h27)
  have r2:=HX8.out.cell 2
  have r3:=HX8.out.cell 3
  clear hb8 hown8
  go_simp
  refine HK.out _ _ (fun _ hS=>⟨r2,r3⟩) ?_
  clear HK K
  try simp only [Act.put,sx]
  have q6:=HY8.out.cell 6
  have f6:=HY8.out.frozen 6
  have q7:=HY8.out.cell 7
  have f7:=HY8.out.frozen 7
  refine anyD_t 8 (.pointer (some ⟨w2.heap.size,0,none⟩)) ?_
  try simp only [Act.put,sx]
  refine anyD_t 9 (.pointer (some ⟨w2.heap.size,4,none⟩)) ?_
  try simp only [Act.put,sx]
  refine anyD_t 10 (.pointer (some ⟨w2.heap.size,6,none⟩)) ?_
  try simp only [Act.put,sx]
  have HX9:=Lib.hid (HX8.out.set_ne (g':=w2.heap.size) (by omega) 6 (.slice A7 env.length cap7))
  have n2:=HX9.out.cell 2
  have n3:=HX9.out.cell 3
  refine anyD_one (i:=11) rfl rfl (by kernel_rfl) (fun K HK=>?_)
  go_simp
  go_simp
  refine HK.out _ _ (fun _ hS=>⟨n2,n3⟩) ?_
  clear HK K
  try simp only [Act.put,sx]
  clear n2 n3
  refine anyD_t 12 (.pointer (some ⟨w2.heap.size,0,none⟩)) ?_
  try simp only [Act.put,sx]
  refine anyD_t 13 (.pointer (some ⟨w2.heap.size,4,none⟩)) ?_
  try simp only [Act.put,sx]
  refine anyD_t 14 (.pointer (some ⟨w2.heap.size,7,none⟩)) ?_
  try simp only [Act.put,sx]
  refine anyD_one (i:=15) rfl rfl (by kernel_rfl) (fun K HK=>?_)
  go_simp
  go_simp
  refine HK.out _ _ (fun h=>absurd h (by decide)) ?_
  clear HK K
  try simp only [Act.put,sx]
  refine anyD_done (by kernel_rfl) ?_
  go_wp2_with fail
  go_ret
  have hrow:RwAt w2.heap.size w8 (.slice A5 (H.length+m) cap5) (.slice A7 env.length cap7) (.slice A8 ins.length cap8) (.slice none 0 0) ⟨a,padH C.sts.length H,env,ins,st,[]⟩:=by
    refine ⟨pad_own ?_ HH.out.lt,HE8.out,HI8.out,World.ownsRow_nil _ _ _ _⟩
    rw [HM.out]
    exact HO8.out
  have hblk:=(HY8.out.set_ 6 (.slice A7 env.length cap7)).set_ 7 (.slice A8 ins.length cap8)
  have hbel:=(HB8.out.setCell (p:=⟨w2.heap.size,6,none⟩) (Nat.le_refl _) (.slice A7 env.length cap7)).setCell (p:=⟨w2.heap.size,7,none⟩) (Nat.le_refl _) (.slice A8 ins.length cap8)
  have hr2:=hrow.apart HY8.out (by decide) (by decide) (by decide) (by decide) 6 (.slice A7 env.length cap7)
  have hr3:=hr2.apart (HY8.out.set_ 6 (.slice A7 env.length cap7)) (by decide) (by decide) (by decide) (by decide) 7 (.slice A8 ins.length cap8)
  exact ⟨w2,w2.heap.size,_,_,_,_,_,rfl,HB2.out,HFX.out w2 _ _ HB2.out HHAS.out,hbel,Nat.le_refl _,hblk,hr3,fun k o hM=>by cases hM⟩
end Go.Proofs.YtfgkcjmeiabdjaaGreatDoor
/- The contracts of micro's do, finish, enterOne, enterAll, below. -/
namespace Go.Proofs.YtfgkcjmeiabdjaaGreatDoor
open Go.ChangeShapes Go.WideShapes Go.ChangeAt Go.RowKit
set_option linter.unusedVariables false

theorem andNot_sets (P Q:Nat→Bool) (n:Nat) (hn:n≤31):bits .andNot .u32 ((bset P n:Nat):Int) ((bset Q n:Nat):Int)=((bset (fun k=>P k && !Q k) n:Nat):Int):=by
  have hq:=bset_u32 Q hn
  rw [u32_andNot_nat _ _ (bset_u32 P hn) hq]
  congr 1
  refine Nat.eq_of_testBit_eq fun i=>?_
  have h2:(4294967295 - bset Q n).testBit i=(decide (i < 32) && !(bset Q n).testBit i):=by
    have:=Nat.testBit_two_pow_sub_succ (x:=bset Q n) (n:=32) (by omega) i
    rw [← this]
    congr 1
    omega
  rw [Nat.testBit_and,h2,bset_test,bset_test,bset_test]
  by_cases hi:i < n
  · have:i < 32:=by omega
    simp [hi,this]
  · simp [hi]
theorem rowI_one (w:World) (x:Int):RowIs (w.alloc (.cells #[.int .i64 x] 3)) 1 (.slice (some ⟨w.heap.size,0,none⟩) 1 1) 1 [.int .i64 x] :=
  ⟨rfl,.inr ⟨⟨w.heap.size,0,none⟩,1,rfl,new_in w x _ rfl,num_one x⟩⟩
section
variable {w0:World} {M:Nat→Option Obj} {t g:Nat} {vs vt:Value} {C:Ch} {w:World} {vh ve vi vo:Value} {X:Se}
set_option maxHeartbeats 4000000 in
set_option maxRecDepth 100000 in
theorem doM_any (hF:Fx w0 t vs vt C) (hS:SeAt w0 M t g vs vt C w vh ve vi vo X) {n:Nat} (hX:Lim n X) (hn:n≤10000) (va:Value) (l:List Ac) (hA:ActsAt w va l) (hl:l.length≤40) (hx:∀ a ∈ l,a.expr.size≤1000000) :
    Calls Tryz.prog 52 #[.pointer (some ⟨g,0,none⟩),va] w (SPost w0 M t g vs vt C (doS l X)):=by
  obtain ⟨i0,hi,hz0,hz1,hz2⟩:=info_parts Tryz.info3
  obtain ⟨i1,ji,jz0,jz1,jz2⟩:=info_parts Tryz.infoOut
  have HI:=Lib.hid hi
  have HZ0:=Lib.hid hz0
  have HZ1:=Lib.hid hz1
  have HZ2:=Lib.hid hz2
  have JI:=Lib.hid ji
  have JZ0:=Lib.hid jz0
  have JZ1:=Lib.hid jz1
  have JZ2:=Lib.hid jz2
  have HS:=Lib.hid hS
  obtain ⟨⟨x0,x1,x2,x3,x4⟩,x5,x6,x7,x8,x9⟩:=hS.cells
  have HDO:=Lib.hid (do_all va ve l X.env w (hF.laid.after hS.below) hA hl hx hS.rows.env.nums hX.env hX.fit)
  have hol:=hX.out
  have hil:=hX.ins
  have hdo:=doL_out l ⟨X.env,[],[]⟩
  have hdi:=doL_ins l ⟨X.env,[],[]⟩
  simp only [List.length_nil] at hdo hdi
  obtain ⟨D,hD⟩:∃ D,doL l ⟨X.env,[],[]⟩=D:=⟨_,rfl⟩
  have HR:Hid (doS l X=⟨X.a,X.hist,D.env,X.ins ++ D.ins,X.st,X.out ++ D.out⟩):=Lib.hid (by rw [← hD]; rfl)
  rw [hD] at HDO hdo hdi
  clear hi hz0 hz1 hz2 ji jz0 jz1 jz2 hD hF hS hX hA hx
  go_enter Tryz.func52,Tryz.ntmps52
  go_wp2_with fail
  refine HDO.out.mono ?_
  rintro e w1 ⟨hb1,ve1,vo1,vi1,rfl,he1,ho1,hi1⟩
  obtain ⟨A1,cap1,rfl⟩:=OwnEnv.slice he1
  have HS1:=Lib.hid (HS.out.after hb1)
  have HB1:=Lib.hid hb1
  have hsl:=HS.out.lt
  have HS2:=Lib.hid (HS1.out.putE (RowAt.lower he1 hsl))
  have HO2:=Lib.hid (own_apart (own_lower ho1 hsl) HS1.out.blk (by decide) 6 (.slice A1 D.env.length cap1))
  have HN2:=Lib.hid (own_apart (own_lower hi1 hsl) HS1.out.blk (by decide) 6 (.slice A1 D.env.length cap1))
  have HR2:=Lib.hid (rowIs_outs (OwnOuts.outs HO2.out))
  clear x0 x1 x2 x3 x4 x5 x6 x7 x8 x9
  obtain ⟨⟨x0,x1,x2,x3,x4⟩,x5,x6,x7,x8,x9⟩:=HS1.out.cells
  obtain ⟨z4,z5,z6,z7,z8,z9⟩:=HS1.out.froz
  clear hb1 he1 ho1 hi1
  go_wp2_with (at_builtin; refine wpList_append_row3 rfl _ _ 39 rfl w0.heap.size 83 i1 (.agg #[.int .i64 0,.int .i64 0,.int .i64 0,.int .i64 0]) 4 32 Tryz.underlying39 JI.out JZ0.out JZ1.out JZ2.out rfl (by decide) _ X.out.length (X.out.flatMap ouCells) rfl HS2.out.rows.out _ D.out.length (D.out.flatMap ouCells) rfl HR2.out (Below.refl _ _) ?c3 ?c4 ?c5 ?_)
  case c3=>unfold maxLen; omega
  case c4=>omega
  case c5=>simpa using HS2.out.lt
  intro v3 w3 hown3 hgrow3 h3
  obtain ⟨A3,cap3,rfl⟩:=own_slice hown3
  have HS3:=Lib.hid (HS2.out.growO (L:=D.out) hgrow3 hown3 (by simpa using h3))
  have HB3:=Lib.hid (blk_grown HS2.out.blk HS2.out.rows.out (by decide) hgrow3)
  have HN3:=Lib.hid (own_apart (World.ownsRow.kept HN2.out hgrow3 (own_own HN2.out HS2.out.rows.out (by decide))) HB3.out (by decide) 9 (.slice A3 (X.out.length+D.out.length) cap3))
  have HR3:=Lib.hid (rowIs_ints (OwnInts.of_own HN3.out (Nat.le_refl _)).list)
  have y7:w3.cell? ⟨g,7,none⟩=some vi:=HB3.out.cell 7
  have y9:w3.cell? ⟨g,9,none⟩=some vo:=HB3.out.cell 9
  have u7:=HB3.out.frozen 7
  have u9:=HB3.out.frozen 9
  clear hown3 hgrow3 h3 x0 x1 x2 x3 x4 x5 x6 x7 x8 x9 z4 z5 z6 z7 z8 z9
  go_wp2_with (at_builtin; refine wpList_append_row3 rfl _ _ 36 rfl w0.heap.size 3 i0 (.int .i64 0) 1 8 Tryz.underlying36 HI.out HZ0.out HZ1.out HZ2.out rfl (by decide) _ X.ins.length (intVals X.ins) rfl HS3.out.rows.ins _ D.ins.length (intVals D.ins) rfl HR3.out (Below.refl _ _) ?c3 ?c4 ?c5 ?_)
  case c3=>unfold maxLen; omega
  case c4=>omega
  case c5=>simpa using HS3.out.lt
  intro v5 w5 hown5 hgrow5 h5
  obtain ⟨A5,cap5,rfl⟩:=own_slice hown5
  have HS5:=Lib.hid (HS3.out.growI (L:=D.ins) hgrow5 hown5 (by simpa using h5))
  have HB5:=Lib.hid (blk_grown HS3.out.blk HS3.out.rows.ins (by decide) hgrow5)
  have t7:w5.cell? ⟨g,7,none⟩=some vi:=HB5.out.cell 7
  have r7:=HB5.out.frozen 7
  clear hown5 hgrow5 h5 y7 y9 u7 u9
  go_wp2_with fail
  go_end0
  exact ⟨rfl,_,_,_,_,by rw [HR.out]; exact HS5.out⟩
theorem SPost.of {Y Z:Se} {e:Ending} {w':World} (he:e=.returned (.tuple #[])) (hYZ:Z=Y) {vh ve vi vo:Value} (h:SeAt w0 M t g vs vt C w' vh ve vi vo Y):SPost w0 M t g vs vt C Z e w':=⟨he,vh,ve,vi,vo,hYZ ▸ h⟩
set_option maxHeartbeats 4000000 in
set_option maxRecDepth 100000 in
theorem finish_any (hF:Fx w0 t vs vt C) (hS:SeAt w0 M t g vs vt C w vh ve vi vo X) {n:Nat} (hX:Lim n X) (hn:n≤10000) (k:Nat) (hk:k < C.sts.length) :
    Calls Tryz.prog 65 #[.pointer (some ⟨g,0,none⟩),.int .i64 (k:Int)] w (SPost w0 M t g vs vt C (finS C.sts (k:Int) X)):=by
  have hlen:=hF.tame.len
  have HS:=Lib.hid hS
  obtain ⟨⟨x0,x1,x2,x3,x4⟩,x5,x6,x7,x8,x9⟩:=hS.cells
  obtain ⟨z4,z5,z6,z7,z8,z9⟩:=hS.froz
  by_cases h0:k=0
  · subst h0
    have HR:Hid (finS C.sts ((0:Nat):Int) X=X.putSt 2):=Lib.hid (by unfold finS; rw [if_pos (by simp)])
    have HS2:=Lib.hid (HS.out.putSt 2)
    clear hF hS hX
    go_enter Tryz.func65,Tryz.ntmps65
    go_wp2_with fail
    go_end0
    exact .of rfl HR.out HS2.out
  · obtain ⟨i0,hi,hz0,hz1,hz2⟩:=info_parts Tryz.info3
    have HI:=Lib.hid hi
    have HZ0:=Lib.hid hz0
    have HZ1:=Lib.hid hz1
    have HZ2:=Lib.hid hz2
    have h0b:((k:Int) == 0)=false:=by simp; omega
    have hil:=hX.ins
    have hta:=hF.tame
    have hup:=hta.up (k:Int) (isSt_of hk) (by omega)
    have hpar:=hta.par (k:Int) (isSt_of hk)
    obtain ⟨u1,u2,u3⟩:=cUp_pos hup
    obtain ⟨p,hp⟩:∃ p:Nat,(stAt C.sts (k:Int)).par=(p:Int):=⟨(stAt C.sts (k:Int)).par.toNat,by omega⟩
    have hpk:p < C.sts.length:=by omega
    obtain ⟨sA,scap,tA,tcap,rfl,rfl⟩:=hF.has.slices
    have HF:=Lib.hid hF
    have HKD:=Lib.hid (fun (W:World) (h:Below w0.heap.size w0 W)=>kindT_any t (p:Int) C W (hF.tree.below h) (by omega))
    have hkt:kindT C.sts (p:Int)=(stAt C.sts (p:Int)).kind:=by unfold kindT; rw [if_pos (isSt_of hpk)]
    rw [hkt] at HKD
    -- the first event inside
    have HS1:=Lib.hid (HS.out.after (below_box w (.cells #[.int .i64 (2000+(k:Int))] 3)))
    have HR1:=Lib.hid (rowI_one w (2000+(k:Int)))
    obtain ⟨b,o,cap',ui,ue,ux,hsl,_,hbl,hst,hhas⟩:=hF.has.st hk
    injection hsl with e1 e2 e3
    subst e1
    have HST:=Lib.hid hst
    have HP:=Lib.hid hp
    have HDN:=Lib.hid (fun (W:World) (vh ve vi vo:Value) (Y:Se) (h:SeAt w0 M t g (.slice (some ⟨b,o,none⟩) C.sts.length scap) (.slice tA C.trs.length tcap) C W vh ve vi vo Y)=>isDone_ok HF.out (C.sts.length+1) (p:Int) W (isSt_of hpk) (by omega) h)
    have HR:Hid (finS C.sts (k:Int) X=if (stAt C.sts (p:Int)).kind=3∧doneF C.sts X.a (C.sts.length+1) (p:Int)=true then (X.addIn (2000+(k:Int))).addIn (2000+(p:Int)) else X.addIn (2000+(k:Int))):=Lib.hid (by unfold finS; rw [if_neg (by omega),hp]; rfl)
    clear hi hz0 hz1 hz2 hF hS hX hta hup hpar u1 u2 u3 hst hhas e2 e3 hp hkt
    go_enter Tryz.func65,Tryz.ntmps65
    go_wp2_with (at_builtin; refine wpList_append_row3 rfl _ _ 36 rfl w0.heap.size 3 i0 (.int .i64 0) 1 8 Tryz.underlying36 HI.out HZ0.out HZ1.out HZ2.out rfl (by decide) _ X.ins.length (intVals X.ins) rfl HS1.out.rows.ins _ 1 [.int .i64 (2000+(k:Int))] rfl HR1.out (Below.refl _ _) ?c3 ?c4 ?c5 ?_)
    case c3=>unfold maxLen; omega
    case c4=>omega
    case c5=>simpa using HS1.out.lt
    intro v3 w3 hown3 hgrow3 h3
    obtain ⟨A3,cap3,rfl⟩:=own_slice hown3
    have HS3:Hid (SeAt w0 M t g (.slice (some ⟨b,o,none⟩) C.sts.length scap) (.slice tA C.trs.length tcap) C (w3.setCell ⟨g,7,none⟩ (.slice A3 (X.ins.length+1) cap3)) vh ve (.slice A3 (X.ins.length+1) cap3) vo (X.addIn (2000+(k:Int)))):=Lib.hid (HS1.out.growI (L:=[2000+(k:Int)]) hgrow3 hown3 (by simpa using h3))
    have HB3:=Lib.hid (blk_grown HS1.out.blk HS1.out.rows.ins (by decide) hgrow3)
    have y0:w3.cell? ⟨g,0,none⟩=some (.pointer (some ⟨t,0,none⟩)):=HB3.out.cell 0
    have y2:w3.cell? ⟨g,2,none⟩=some (.slice (some ⟨b,o,none⟩) C.sts.length scap):=HB3.out.cell 2
    have y7:w3.cell? ⟨g,7,none⟩=some vi:=HB3.out.cell 7
    have r7:=HB3.out.frozen 7
    obtain ⟨c0,c1,c2,c3,c4⟩:=HST.out.below HS3.out.below hbl
    rw [HP.out] at c1
    clear hown3 hgrow3 h3 x0 x1 x2 x3 x4 x5 x6 x7 x8 x9 z4 z5 z6 z7 z8 z9
    by_cases hk3:(stAt C.sts (p:Int)).kind=3
    · rw [hk3] at HKD HR
      clear hk3
      cases hd:doneF C.sts X.a (C.sts.length+1) (p:Int) with
      | true =>
        rw [hd] at HR
        have HD:=Lib.hid hd
        clear hd
        go_wp2_with fail
        refine (HKD.out _ HS3.out.below).mono ?_
        rintro e w4 ⟨rfl,rfl⟩
        go_wp2_with fail
        refine (HDN.out _ _ _ _ _ _ HS3.out).mono ?_
        rintro e w5 ⟨rfl,hb5⟩
        have hda:doneF C.sts (X.addIn (2000+(k:Int))).a (C.sts.length+1) (p:Int)=true:=HD.out
        rw [hda]
        have HS5:=Lib.hid (HS3.out.after hb5)
        have HS6:=Lib.hid (HS5.out.after (below_box w5 (.cells #[.int .i64 (2000+(p:Int))] 3)))
        have HR6:=Lib.hid (rowI_one w5 (2000+(p:Int)))
        obtain ⟨⟨x0,x1,x2,x3,x4⟩,x5,x6,x7,x8,x9⟩:=HS5.out.cells
        clear hb5 y0 y2 y7 r7 c0 c1 c2 c3 c4 hda
        go_wp2_with (at_builtin; refine wpList_append_row3 rfl _ _ 36 rfl w0.heap.size 3 i0 (.int .i64 0) 1 8 Tryz.underlying36 HI.out HZ0.out HZ1.out HZ2.out rfl (by decide) _ (X.addIn (2000+(k:Int))).ins.length (intVals (X.addIn (2000+(k:Int))).ins) rfl HS6.out.rows.ins _ 1 [.int .i64 (2000+(p:Int))] rfl HR6.out (Below.refl _ _) ?c3 ?c4 ?c5 ?_)
        case c3=>unfold maxLen; show (X.ins ++ [_]).length+1≤_; rw [List.length_append,List.length_singleton]; omega
        case c4=>show ((X.ins ++ [_]).length+1) * 8≤_; rw [List.length_append,List.length_singleton]; omega
        case c5=>simpa using HS6.out.lt
        intro v7 w7 hown7 hgrow7 h7
        obtain ⟨A7,cap7,rfl⟩:=own_slice hown7
        have HS7:Hid (SeAt w0 M t g (.slice (some ⟨b,o,none⟩) C.sts.length scap) (.slice tA C.trs.length tcap) C (w7.setCell ⟨g,7,none⟩ (.slice A7 ((X.addIn (2000+(k:Int))).ins.length+1) cap7)) vh ve (.slice A7 ((X.addIn (2000+(k:Int))).ins.length+1) cap7) vo ((X.addIn (2000+(k:Int))).addIn (2000+(p:Int)))):=Lib.hid (HS6.out.growI (L:=[2000+(p:Int)]) hgrow7 hown7 (by simpa using h7))
        have HB7:=Lib.hid (blk_grown HS6.out.blk HS6.out.rows.ins (by decide) hgrow7)
        have y7:w7.cell? ⟨g,7,none⟩=some (.slice A3 (X.ins.length+1) cap3):=HB7.out.cell 7
        have r7:=HB7.out.frozen 7
        clear hown7 hgrow7 h7 x0 x1 x2 x3 x4 x5 x6 x7 x8 x9
        go_wp2_with fail
        go_end0
        exact .of rfl (by rw [HR.out,if_pos (by simp)]) HS7.out
      | false =>
        rw [hd] at HR
        have HD:=Lib.hid hd
        clear hd
        go_wp2_with fail
        refine (HKD.out _ HS3.out.below).mono ?_
        rintro e w4 ⟨rfl,rfl⟩
        go_wp2_with fail
        refine (HDN.out _ _ _ _ _ _ HS3.out).mono ?_
        rintro e w5 ⟨rfl,hb5⟩
        have hda:doneF C.sts (X.addIn (2000+(k:Int))).a (C.sts.length+1) (p:Int)=false:=HD.out
        rw [hda]
        have HS5:=Lib.hid (HS3.out.after hb5)
        clear hb5 y0 y2 y7 r7 c0 c1 c2 c3 c4 hda
        go_wp2_with fail
        go_end0
        exact .of rfl (by rw [HR.out,if_neg (by simp)]) HS5.out
    · have hk3b:((stAt C.sts (p:Int)).kind == 3)=false:=by simpa using hk3
      have HR2:Hid (finS C.sts (k:Int) X=X.addIn (2000+(k:Int))):=Lib.hid (by rw [HR.out,if_neg (fun h=>hk3 h.1)])
      generalize (stAt C.sts (p:Int)).kind=K at *
      clear hk3 HR
      go_wp2_with fail
      refine (HKD.out _ HS3.out.below).mono ?_
      rintro e w4 ⟨rfl,rfl⟩
      go_wp2_with fail
      go_end0
      exact .of rfl HR2.out HS3.out
set_option maxHeartbeats 4000000 in
set_option maxRecDepth 100000 in
theorem enterOne_any (hF:Fx w0 t vs vt C) (hS:SeAt w0 M t g vs vt C w vh ve vi vo X) {n:Nat} (hX:Lim n X) (hn:n≤9000) (k:Nat) (hk:k < C.sts.length) :
    Calls Tryz.prog 24 #[.pointer (some ⟨g,0,none⟩),.int .i64 (k:Int)] w (SPost w0 M t g vs vt C (enS C.sts (k:Int) X)):=by
  have hlen:=hF.tame.len
  have hta:=hF.tame
  obtain ⟨sA,scap,tA,tcap,rfl,rfl⟩:=hF.has.slices
  have HS:=Lib.hid hS
  have HF:=Lib.hid hF
  obtain ⟨⟨x0,x1,x2,x3,x4⟩,x5,x6,x7,x8,x9⟩:=hS.cells
  have hor:=or_add X.a C.sts.length k (by omega) hk
  obtain ⟨b,o,cap',ui,ue,ux,hsl,_,hbl,hst,hhas⟩:=hF.has.st hk
  injection hsl with e1 e2 e3
  subst e1
  obtain ⟨c0,c1,c2,c3,c4⟩:=hst.below hS.below hbl
  have HHAS:=Lib.hid hhas
  obtain ⟨iA,icap,eA,ecap,xA,xcap,rfl,rfl,rfl⟩:=hhas.slices
  have HEX:=Lib.hid (hF.acts (k:Int)).1
  have HBX:=Lib.hid (Blk.new w 61 #[.int .i64 (stAt C.sts (k:Int)).kind,.int .i64 (stAt C.sts (k:Int)).par,.slice iA (stAt C.sts (k:Int)).ini.length icap,.slice eA (stAt C.sts (k:Int)).ent.length ecap,.slice xA (stAt C.sts (k:Int)).exi.length xcap])
  have HS1:=Lib.hid (HS.out.after (below_box w (stBox (stAt C.sts (k:Int)).kind (stAt C.sts (k:Int)).par (.slice iA (stAt C.sts (k:Int)).ini.length icap) (.slice eA (stAt C.sts (k:Int)).ent.length ecap) (.slice xA (stAt C.sts (k:Int)).exi.length xcap))))
  have hgl:g < w.heap.size:=hS.blk.lt
  have HX1:=Lib.hid (putA_lim hX (addS X.a (k:Int)))
  have HOR:=Lib.hid hor
  have hpar:(stAt C.sts (k:Int)).kind=4→∃ p:Nat,(stAt C.sts (k:Int)).par=(p:Int)∧p < C.sts.length:=fun h4=>by
    have hk0:0 < (k:Int):=by
      rcases Nat.eq_zero_or_pos k with h | h
      · subst h
        have:=hta.first
        rw [show (((0:Nat):Int))=0 from rfl,this] at h4
        omega
      · omega
    have hup:=hta.up (k:Int) (isSt_of hk) hk0
    have hp:=hta.par (k:Int) (isSt_of hk)
    obtain ⟨u1,u2,u3⟩:=cUp_pos hup
    exact ⟨(stAt C.sts (k:Int)).par.toNat,by omega,by omega⟩
  have HPAR:=Lib.hid hpar
  clear hF hS hX hta hst hhas e2 e3 hor hpar
  go_enter Tryz.func24,Tryz.ntmps24
  go_wp2_with fail
  refine anyD_start (fun W=>W.cell? ⟨g,4,none⟩=some (.int .u32 ((bset X.a C.sts.length:Nat):Int))) (fun i=>[11].contains i) (by kernel_rfl) ?_
  try simp only [Act.put,sx]
  refine anyD_t 0 (.pointer (some ⟨g,0,none⟩)) ?_
  try simp only [Act.put,sx]
  refine anyD_t 1 (.pointer (some ⟨g,0,none⟩)) ?_
  try simp only [Act.put,sx]
  refine anyD_t 2 (.pointer (some ⟨g,4,none⟩)) ?_
  try simp only [Act.put,sx]
  refine anyD_t 3 (.pointer (some ⟨g,4,none⟩)) ?_
  try simp only [Act.put,sx]
  refine anyD_l 4 (.int .u32 ((bset X.a C.sts.length:Nat):Int)) (HS1.out.drew.cells.1.2.2.2.2) ?_
  try simp only [Act.put,sx]
  refine anyD_t 5 (.int .i64 (k:Int)) ?_
  try simp only [Act.put,sx]
  refine anyD_one (i:=6) rfl rfl (by kernel_rfl) (fun K HK=>?_)
  go_simp
  refine (bitM_any k (by omega) _).mono ?_
  rintro e w2 ⟨rfl,rfl⟩
  go_simp
  refine HK.out _ _ (fun _ hS=>HS1.out.drew.cells.1.2.2.2.2) ?_
  clear HK K
  try simp only [Act.put,sx]
  refine anyD_one (i:=7) rfl rfl (by kernel_rfl) (fun K HK=>?_)
  go_simp
  rw [HOR.out]
  refine HK.out _ _ (fun _ hS=>HS1.out.drew.cells.1.2.2.2.2) ?_
  clear HK K
  try simp only [Act.put,sx]
  have y4:=HS1.out.drew.cells.1.2.2.2.2
  have z4:=HS1.out.drew.froz.1
  refine anyD_t 8 (.pointer (some ⟨g,0,none⟩)) ?_
  try simp only [Act.put,sx]
  refine anyD_t 9 (.pointer (some ⟨g,4,none⟩)) ?_
  try simp only [Act.put,sx]
  refine anyD_t 10 (.pointer (some ⟨g,4,none⟩)) ?_
  try simp only [Act.put,sx]
  refine anyD_one (i:=11) rfl rfl (by kernel_rfl) (fun K HK=>?_)
  go_simp
  go_simp
  refine HK.out _ _ (fun h=>absurd h (by decide)) ?_
  clear HK K
  try simp only [Act.put,sx]
  refine anyD_done (by kernel_rfl) ?_
  have hsz:(w.setCell ⟨g,4,none⟩ (.int .u32 ((bset (addS X.a (k:Int)) C.sts.length:Nat):Int))).heap.size=w.heap.size:=by simp
  have HS2:=Lib.hid (((HS.out.putA (addS X.a (k:Int))).after (below_box (w.setCell ⟨g,4,none⟩ (.int .u32 ((bset (addS X.a (k:Int)) C.sts.length:Nat):Int))) (stBox (stAt C.sts (k:Int)).kind (stAt C.sts (k:Int)).par (.slice iA (stAt C.sts (k:Int)).ini.length icap) (.slice eA (stAt C.sts (k:Int)).ent.length ecap) (.slice xA (stAt C.sts (k:Int)).exi.length xcap)))).drew.also (Blk.new (w.setCell ⟨g,4,none⟩ (.int .u32 ((bset (addS X.a (k:Int)) C.sts.length:Nat):Int))) 61 #[.int .i64 (stAt C.sts (k:Int)).kind,.int .i64 (stAt C.sts (k:Int)).par,.slice iA (stAt C.sts (k:Int)).ini.length icap,.slice eA (stAt C.sts (k:Int)).ent.length ecap,.slice xA (stAt C.sts (k:Int)).exi.length xcap]).drew (by decide) (by decide) (by decide) (by decide))
  rw [hsz] at HS2
  have HL2:=Lib.hid (HS.out.after (Below.refl _ _))
  generalize ((w.setCell ⟨g,4,none⟩ (.int .u32 ((bset (addS X.a (k:Int)) C.sts.length:Nat):Int))).alloc (stBox (stAt C.sts (k:Int)).kind (stAt C.sts (k:Int)).par (.slice iA (stAt C.sts (k:Int)).ini.length icap) (.slice eA (stAt C.sts (k:Int)).ent.length ecap) (.slice xA (stAt C.sts (k:Int)).exi.length xcap))).drew=w3 at *
  obtain ⟨⟨q0,q1,q2,q3,q4⟩,-⟩:=blk5_facts HS2.out.stays
  have HR:Hid (enS C.sts (k:Int) X=if (stAt C.sts (k:Int)).kind=4 then finS C.sts (stAt C.sts (k:Int)).par (doS (stAt C.sts (k:Int)).ent (X.putA (addS X.a (k:Int)))) else doS (stAt C.sts (k:Int)).ent (X.putA (addS X.a (k:Int)))):=Lib.hid rfl
  clear x0 x1 x2 x3 x4 x5 x6 x7 x8 x9 y4 z4 c0 c1 c2 c3 c4
  go_wp2_with fail
  refine (doM_any HF.out HS2.out HX1.out (by omega) _ _ (HHAS.out.2.1.below HS2.out.below) HEX.out.1 HEX.out.2).mono ?_
  rintro e w4 ⟨rfl,vh4,ve4,vi4,vo4,hs4⟩
  have HS4:=Lib.hid hs4
  clear q0 q1 q2 q3 q4 hs4
  obtain ⟨⟨q0,q1,q2,q3,q4⟩,-⟩:=blk5_facts HS4.out.stays
  by_cases hk4:(stAt C.sts (k:Int)).kind=4
  · obtain ⟨p,hp,hpl⟩:=HPAR.out hk4
    have HXD:=Lib.hid (doS_lim HX1.out HEX.out.1)
    have HFI:=Lib.hid (finish_any HF.out HS4.out HXD.out (by omega) p hpl)
    have HR2:Hid (enS C.sts (k:Int) X=finS C.sts (p:Int) (doS (stAt C.sts (k:Int)).ent (X.putA (addS X.a (k:Int))))):=Lib.hid (by rw [HR.out,if_pos hk4,hp])
    rw [hk4] at q0
    rw [hp] at q1
    clear hk4 hp HPAR
    go_wp2_with fail
    refine HFI.out.mono ?_
    rintro e w5 ⟨rfl,vh5,ve5,vi5,vo5,hs5⟩
    have HS5:=Lib.hid hs5
    clear hs5
    go_wp2_with fail
    go_end0
    exact .of rfl HR2.out (HS5.out.less1 HL2.out (Nat.le_refl _))
  · have hk4b:((stAt C.sts (k:Int)).kind == 4)=false:=by simpa using hk4
    have HR2:Hid (enS C.sts (k:Int) X=doS (stAt C.sts (k:Int)).ent (X.putA (addS X.a (k:Int)))):=Lib.hid (by rw [HR.out,if_neg hk4])
    clear hk4
    go_wp2_with fail
    go_end0
    exact .of rfl HR2.out (HS4.out.less1 HL2.out (Nat.le_refl _))
set_option maxHeartbeats 4000000 in
set_option maxRecDepth 100000 in
theorem enterAll_any (hF:Fx w0 t vs vt C) (hS:SeAt w0 M t g vs vt C w vh ve vi vo X) {n:Nat} (hX:Lim n X) (hn:n≤8000) (P:Nat→Bool) :
    Calls Tryz.prog 25 #[.pointer (some ⟨g,0,none⟩),.int .u32 ((bset P C.sts.length:Nat):Int)] w (SPost w0 M t g vs vt C (entU C.sts (fun k=>P k && !X.a k) C.sts.length X)):=by
  have hlen:=hF.tame.len
  obtain ⟨sA,scap,tA,tcap,rfl,rfl⟩:=hF.has.slices
  have HS:=Lib.hid hS
  have HF:=Lib.hid hF
  have HX:=Lib.hid hX
  obtain ⟨⟨x0,x1,x2,x3,x4⟩,x5,x6,x7,x8,x9⟩:=hS.cells
  have hand:=andNot_sets P X.a C.sts.length (by omega)
  obtain ⟨Q,hQ⟩:∃ Q,(fun k=>P k && !X.a k)=Q:=⟨_,rfl⟩
  rw [hQ] at hand ⊢
  have HU:Hid (∀ k,entU C.sts Q (k+1) X=if Q k=true then enS C.sts (k:Int) (entU C.sts Q k X) else entU C.sts Q k X):=Lib.hid fun k=>rfl
  have HUL:Hid (∀ k,Lim (n+3 * k) (entU C.sts Q k X)):=Lib.hid fun k=>entU_lim (fun s=>(hF.acts s).1.1) Q hX k
  have HU0:Hid (entU C.sts Q 0 X=X):=Lib.hid rfl
  generalize entU C.sts Q=U at *
  clear hF hS hX hQ
  go_enter Tryz.func25,Tryz.ntmps25
  go_wp2_with fail
  go_loopw [18] (fun i wr=>∃ (k:Nat) (vh2 ve2 vi2 vo2:Value),k≤C.sts.length∧i=.int .i64 (k:Int)∧Hid (SeAt w0 M t g (.slice sA C.sts.length scap) (.slice tA C.trs.length tcap) C wr vh2 ve2 vi2 vo2 (U k X))) (fun i _=>C.sts.length - (intOf i).toNat)
  case atStart=>exact ⟨0,_,_,_,_,Nat.zero_le _,rfl,Lib.hid (by rw [HU0.out]; exact HS.out)⟩
  case round =>
    obtain ⟨k,vh2,ve2,vi2,vo2,hk,rfl,HSK⟩:=hrel
    obtain ⟨wo,rfl⟩:∃ wo:World,wo=wr:=⟨_,rfl⟩
    clear x0 x1 x2 x3 x4 x5 x6 x7 x8 x9
    by_cases hlt:k < C.sts.length
    · have hne:=(and_test Q C.sts.length k (by omega) hlt).2
      have hu:=HU.out k
      cases hq:Q k with
      | false =>
        rw [hq] at hne
        rw [hq,if_neg (by simp)] at hu
        have HUK:=Lib.hid hu
        clear hq hu hand
        go_wp2_with fail
        refine (bitM_any k (by omega) _).mono ?_
        rintro e w2 ⟨rfl,rfl⟩
        go_wp2_with fail
        go_roundw
        case rel=>exact ⟨k+1,_,_,_,_,by omega,by go_num,Lib.hid (by rw [HUK.out]; exact HSK.out)⟩
        case measure=>simp [intOf]; omega
      | true =>
        rw [hq] at hne
        rw [hq,if_pos rfl] at hu
        have HUK:=Lib.hid hu
        have HEN:=Lib.hid (enterOne_any HF.out HSK.out (HUL.out k) (by omega) k hlt)
        clear hq hu hand
        go_wp2_with fail
        refine (bitM_any k (by omega) _).mono ?_
        rintro e w2 ⟨rfl,rfl⟩
        go_wp2_with fail
        refine HEN.out.mono ?_
        rintro e w4 ⟨rfl,vh4,ve4,vi4,vo4,hs4⟩
        have HS4:=Lib.hid hs4
        clear hs4
        go_wp2_with fail
        go_roundw
        case rel=>exact ⟨k+1,_,_,_,_,by omega,by go_num,Lib.hid (by rw [HUK.out]; exact HS4.out)⟩
        case measure=>simp [intOf]; omega
    · obtain rfl:k=C.sts.length:=by omega
      go_wp2_with fail
      go_end0
      exact .of rfl rfl HSK.out
set_option maxHeartbeats 4000000 in
set_option maxRecDepth 100000 in
theorem below_anyM (hF:Fx w0 t vs vt C) (hS:SeAt w0 M t g vs vt C w vh ve vi vo X) (hHl:X.hist.length≤1000) (a:Int) (vl:Value) (l:List Int) (hv:ListAt w vl l) (hll:l.length≤1000) :
    Calls Tryz.prog 26 #[.pointer (some ⟨g,0,none⟩),.int .i64 a,vl] w fun e w'=>e=.returned (.int .u32 ((bset (pSet C.sts X.hist a l).a C.sts.length:Nat):Int))∧Below w.heap.size w w':=by
  have HES:=Lib.hid (enterSet_any t a vh vl C X.hist l w.drew (hF.tree.below hS.drew.below) hF.chk hF.few hS.drew.rows.hist.hist hHl (hv.below (Below.refl _ _).drew) hll)
  obtain ⟨⟨x0,x1,x2,x3,x4⟩,x5,x6,x7,x8,x9⟩:=hS.cells
  obtain ⟨lA,lcap,rfl,hlcap⟩:=RowsAt.slice hv
  obtain ⟨hA,hcap,rfl⟩:=hS.rows.hist.slice
  clear hF hS hv
  go_enter Tryz.func26,Tryz.ntmps26
  go_wp2_with fail
  refine anyD_start (fun W=>W.cell? ⟨g,0,none⟩=some (.pointer (some ⟨t,0,none⟩))∧W.cell? ⟨g,5,none⟩=some (.slice hA X.hist.length hcap)) (fun i=>[].contains i) (by kernel_rfl) ?_
  try simp only [Act.put,sx]
  refine anyD_t 0 (.pointer (some ⟨g,0,none⟩)) ?_
  try simp only [Act.put,sx]
  refine anyD_t 1 (.pointer (some ⟨g,0,none⟩)) ?_
  try simp only [Act.put,sx]
  refine anyD_t 2 (.pointer (some ⟨g,0,none⟩)) ?_
  try simp only [Act.put,sx]
  refine anyD_l 3 (.pointer (some ⟨t,0,none⟩)) (⟨x0,x5⟩) ?_
  try simp only [Act.put,sx]
  refine anyD_t 4 (.pointer (some ⟨g,0,none⟩)) ?_
  try simp only [Act.put,sx]
  refine anyD_t 5 (.pointer (some ⟨g,0,none⟩)) ?_
  try simp only [Act.put,sx]
  refine anyD_t 6 (.pointer (some ⟨g,4,none⟩)) ?_
  try simp only [Act.put,sx]
  refine anyD_t 7 (.pointer (some ⟨g,5,none⟩)) ?_
  try simp only [Act.put,sx]
  refine anyD_l 8 (.slice hA X.hist.length hcap) (⟨x0,x5⟩) ?_
  try simp only [Act.put,sx]
  refine anyD_t 9 (.int .i64 a) ?_
  try simp only [Act.put,sx]
  refine anyD_t 10 (.slice lA l.length lcap) ?_
  try simp only [Act.put,sx]
  refine anyD_one (i:=11) rfl rfl (by kernel_rfl) (fun K HK=>?_)
  go_simp
  refine HES.out.mono ?_
  rintro e w2 ⟨rfl,hb2⟩
  have HB2:Hid (Below w.heap.size w w2):=Lib.hid ((Below.refl _ _).drew.trans hb2)
  have y0:=(HB2.out.cell (p:=⟨g,0,none⟩) (Lib.lt_of_cell x0)).trans x0
  have y5:=(HB2.out.cell (p:=⟨g,5,none⟩) (Lib.lt_of_cell x5)).trans x5
  clear hb2
  go_simp
  refine HK.out _ _ (fun _ hS=>⟨y0,y5⟩) ?_
  clear HK K
  try simp only [Act.put,sx]
  refine anyD_one (i:=12) rfl rfl (by kernel_rfl) (fun K HK=>?_)
  go_simp
  refine HK.out _ _ (fun _ hS=>⟨y0,y5⟩) ?_
  clear HK K
  try simp only [Act.put,sx]
  refine anyD_done (by kernel_rfl) ?_
  go_wp2_with fail
  go_ret
  exact ⟨rfl,HB2.out⟩
end
end Go.Proofs.YtfgkcjmeiabdjaaGreatDoor
