/- The contract of table's statesOf: all states are made ready. -/
import Derived.Test.YtmhkpjcdkjnlnaaGreatDoorFWWst
namespace Go.Proofs.YtmhkpjcdkjnlnaaGreatDoor
open Go.ChangeShapes Go.WideShapes Go.ChangeAt Go.RowKit
set_option linter.unusedVariables false

theorem WTab.olds {w:World} {g:Nat} {S:List St} {K:Nat} (h:WTab w g S K) {j:Nat} (hj:j < S.length) :
 (∃ a,w.cell? ⟨g,j * 5,none⟩=some a)∧(∃ a,w.cell? ⟨g,j * 5+1,none⟩=some a)∧(∃ a,w.cell? ⟨g,j * 5+2,none⟩=some a)∧(∃ a,w.cell? ⟨g,j * 5+3,none⟩=some a)∧(∃ a,w.cell? ⟨g,j * 5+4,none⟩=some a):=by
 obtain ⟨cur,h1,h2,-⟩:=h
 have f:∀ i,i < 5→∃ a,w.cell? ⟨g,j * 5+i,none⟩=some a:=fun i hi=>⟨cur[j * 5+i]'(by omega),(h1.cell _).trans (Array.getElem?_eq_getElem (by omega))⟩
 exact ⟨f 0 (by omega),f 1 (by omega),f 2 (by omega),f 3 (by omega),f 4 (by omega)⟩
theorem WTab.froz {w:World} {g:Nat} {S:List St} {K:Nat} (h:WTab w g S K) (i:Nat):w.frozen? ⟨g,i,none⟩=false:=by
 obtain ⟨cur,h1,-⟩:=h
 exact h1.frozen i
theorem WTab.none_yet {w:World} {g:Nat} {S:List St} (h:Blk w g 100 (tsZ S.length)):WTab w g S S.length:=⟨_,h,by simp [madeCells],fun i h1 h2=>by omega⟩
abbrev mkS (q c t g:Nat) (vs vt:Value) (C:Ch) (W:World):Prop :=
 (W.cell? ⟨q,0,none⟩=some (.pointer (some ⟨t,0,none⟩))∧W.cell? ⟨q,1,none⟩=some (.int .i64 C.vars)∧W.cell? ⟨q,2,none⟩=some vs∧W.cell? ⟨q,3,none⟩=some vt∧W.cell? ⟨q,4,none⟩=some (.slice (some ⟨g,0,none⟩) C.sts.length C.sts.length)) ∧
 W.cell? ⟨c,0,none⟩=some (.int .i64 C.vars)∧W.cell? ⟨c,1,none⟩=some vs∧W.cell? ⟨c,2,none⟩=some vt
theorem mkS_of {q c t g:Nat} {vs vt:Value} {C:Ch} {w W:World} {B:Nat} (hq:Blk w q 134 (mkCs t g vs vt C)) (hc:Blk w c 25 #[.int .i64 C.vars,vs,vt]) (hb:Below B w W) (h1:q < B) (h2:c < B):mkS q c t g vs vt C W :=
 ⟨(blk5_facts (hq.below hb h1)).1,(hc.below hb h2).facts3.1⟩
set_option maxHeartbeats 16000000 in
set_option maxRecDepth 100000 in
theorem statesOf_any (t:Nat) (C:Ch) (w:World) (hT:TreeAt w t C) (hF:fewB C=true) (hta:Tame C.sts) (hR:Rooted C.sts) :
 Calls Tryz.prog 43 #[.pointer (some ⟨t,0,none⟩)] w fun e w'=>Below w.heap.size w w'∧∃ g,e=.returned (.slice (some ⟨g,0,none⟩) C.sts.length C.sts.length)∧w.heap.size≤g∧WTab w' g C.sts 0:=by
 have hlen:=hta.len
 have htr:C.trs.length≤60:=by have:=(few_parts hF).2.1; omega
 have HCH:=Lib.hid (chartT_any t C w hT hF)
 have HMK:=Lib.hid (fun W=>make_ts C.sts.length (by omega) W)
 have HT:=Lib.hid hT
 have HTA:=Lib.hid hta
 have HRT:=Lib.hid hR
 clear hT hF hta hR
 go_enter Tryz.func43,Tryz.ntmps43
 go_wp2_with fail
 refine HCH.out.mono ?_
 rintro e w1 ⟨hb1,us,ut,rfl,ho1⟩
 have HC1:=Lib.hid ho1.has
 obtain ⟨uA,ucap,rA,rcap,rfl,rfl⟩:=ho1.has.slices
 have HB1:=Lib.hid hb1
 clear hb1 ho1 HCH
 go_wp2_with fail
 have HY:=Lib.hid (Blk.new w1 25 #[.int .i64 C.vars,.slice uA C.sts.length ucap,.slice rA C.trs.length rcap]).drew
 have HB2:=Lib.hid (below_box w1 (chBox C.vars (.slice uA C.sts.length ucap) (.slice rA C.trs.length rcap))).drew
 refine anyD_start (fun W=>W.cell? ⟨w1.heap.size,0,none⟩=some (.int .i64 C.vars)∧W.cell? ⟨w1.heap.size,1,none⟩=some (.slice uA C.sts.length ucap)∧W.cell? ⟨w1.heap.size,2,none⟩=some (.slice rA C.trs.length rcap)) (fun i=>[8].contains i) (by kernel_rfl) ?_
 try simp only [Act.put,sx]
 generalize (w1.alloc (.cells #[.int .i64 C.vars,.slice uA C.sts.length ucap,.slice rA C.trs.length rcap] 25)).drew=w2 at *
 have hc2:w1.heap.size < w2.heap.size:=HY.out.lt
 obtain ⟨⟨y0,y1,y2⟩,-⟩:=HY.out.facts3
 refine anyD_t 0 (.pointer (some ⟨t,0,none⟩)) ?_
 try simp only [Act.put,sx]
 refine anyD_l 1 (.agg #[.int .i64 C.vars,.slice uA C.sts.length ucap,.slice rA C.trs.length rcap]) (⟨y0,y1,y2⟩) ?_
 try simp only [Act.put,sx]
 refine anyD_t 2 (.pointer (some ⟨w1.heap.size,1,none⟩)) ?_
 try simp only [Act.put,sx]
 refine anyD_l 3 (.slice uA C.sts.length ucap) (⟨y0,y1,y2⟩) ?_
 try simp only [Act.put,sx]
 refine anyD_t 4 (.int .i64 (C.sts.length:Int)) ?_
 try simp only [Act.put,sx]
 refine anyD_two (i:=5) (j:=7) rfl rfl rfl rfl (by kernel_rfl) (fun K HK=>?orderA) (fun K HK=>?orderB)
 case' orderA =>
  have hmk:=HMK.out w2
  have HY3:=Lib.hid (HY.out.alloc (.cells (tsZ C.sts.length) 100))
  go_simp
  refine HK.out _ _ (fun _ hS=>HY3.out.facts3.1) ?_
  clear HK K hmk
  try simp only [Act.put,sx]
  refine anyD_t 6 (.agg #[.pointer (some ⟨t,0,none⟩),.int .i64 C.vars,.slice uA C.sts.length ucap,.slice rA C.trs.length rcap,.slice (some ⟨w2.heap.size,0,none⟩) C.sts.length C.sts.length]) ?_
  try simp only [Act.put,sx]
  refine anyD_one (i:=7) rfl rfl (by kernel_rfl) (fun K HK=>?_)
  go_simp
  have HY4:=Lib.hid (HY3.out.alloc (.cells #[.pointer none,.int .i64 0,.slice none 0 0,.slice none 0 0,.slice none 0 0] 134))
  refine HK.out _ _ (fun _ hS=>HY4.out.facts3.1) ?_
  clear HK K
  try simp only [Act.put,sx]
  have HG4:=Lib.hid ((Blk.new w2 100 (tsZ C.sts.length)).alloc (.cells #[.pointer none,.int .i64 0,.slice none 0 0,.slice none 0 0,.slice none 0 0] 134))
  have HQ4:=Lib.hid (Blk.new_at (w2.alloc (.cells (tsZ C.sts.length) 100)) 134 #[.pointer none,.int .i64 0,.slice none 0 0,.slice none 0 0,.slice none 0 0] (w2.heap.size+1) (by simp))
  have HB4:=Lib.hid ((HB2.out.alloc HB2.out.size (.cells (tsZ C.sts.length) 100)).alloc (by have:=HB2.out.size; simp; omega) (.cells #[.pointer none,.int .i64 0,.slice none 0 0,.slice none 0 0,.slice none 0 0] 134))
  have HN:Hid (w2.heap.size ≠ w2.heap.size+1∧w1.heap.size < w2.heap.size∧w1.heap.size < w2.heap.size+1):=Lib.hid ⟨by omega,by omega,by omega⟩
  generalize (w2.alloc (.cells (tsZ C.sts.length) 100)).alloc (.cells #[.pointer none,.int .i64 0,.slice none 0 0,.slice none 0 0,.slice none 0 0] 134)=w4 at *
  clear HY HB2 HY3 hc2 y0 y1 y2
  generalize w2.heap.size+1=q at *
  generalize w2.heap.size=g at *
 case' orderB =>
  have HY3:=Lib.hid (HY.out.alloc (.cells #[.pointer none,.int .i64 0,.slice none 0 0,.slice none 0 0,.slice none 0 0] 134))
  go_simp
  refine HK.out _ _ (fun _ hS=>HY3.out.facts3.1) ?_
  clear HK K
  try simp only [Act.put,sx]
  have hmk:=HMK.out (w2.alloc (.cells #[.pointer none,.int .i64 0,.slice none 0 0,.slice none 0 0,.slice none 0 0] 134))
  refine anyD_one (i:=5) rfl rfl (by kernel_rfl) (fun K HK=>?_)
  go_simp
  have HY4:=Lib.hid (HY3.out.alloc (.cells (tsZ C.sts.length) 100))
  refine HK.out _ _ (fun _ hS=>HY4.out.facts3.1) ?_
  clear HK K hmk
  try simp only [Act.put,sx]
  refine anyD_t 6 (.agg #[.pointer (some ⟨t,0,none⟩),.int .i64 C.vars,.slice uA C.sts.length ucap,.slice rA C.trs.length rcap,.slice (some ⟨w2.heap.size+1,0,none⟩) C.sts.length C.sts.length]) ?_
  try simp only [Act.put,sx]
  have HG4:=Lib.hid (Blk.new_at (w2.alloc (.cells #[.pointer none,.int .i64 0,.slice none 0 0,.slice none 0 0,.slice none 0 0] 134)) 100 (tsZ C.sts.length) (w2.heap.size+1) (by simp))
  have HQ4:=Lib.hid ((Blk.new w2 134 #[.pointer none,.int .i64 0,.slice none 0 0,.slice none 0 0,.slice none 0 0]).alloc (.cells (tsZ C.sts.length) 100))
  have HB4:=Lib.hid ((HB2.out.alloc HB2.out.size (.cells #[.pointer none,.int .i64 0,.slice none 0 0,.slice none 0 0,.slice none 0 0] 134)).alloc (by have:=HB2.out.size; simp; omega) (.cells (tsZ C.sts.length) 100))
  have HN:Hid (w2.heap.size+1 ≠ w2.heap.size∧w1.heap.size < w2.heap.size+1∧w1.heap.size < w2.heap.size):=Lib.hid ⟨by omega,by omega,by omega⟩
  generalize (w2.alloc (.cells #[.pointer none,.int .i64 0,.slice none 0 0,.slice none 0 0,.slice none 0 0] 134)).alloc (.cells (tsZ C.sts.length) 100)=w4 at *
  clear HY HB2 HY3 hc2 y0 y1 y2
  generalize w2.heap.size+1=g at *
  generalize w2.heap.size=q at *
 all_goals
  obtain ⟨⟨p0,p1,p2,p3,p4⟩,f0,f1,f2,f3,f4⟩:=blk5_facts HQ4.out
  refine anyD_one (i:=8) rfl rfl (by kernel_rfl) (fun K HK=>?_)
  go_simp
  refine HK.out _ _ (fun h=>absurd h (by decide)) ?_
  clear HK K
  try simp only [Act.put,sx]
  refine anyD_done (by kernel_rfl) ?_
  have hn1:w1.heap.size ≠ q:=by have:=HN.out.2.2; omega
  have hq:=((((HQ4.out.set_ 0 (.pointer (some ⟨t,0,none⟩))).set_ 1 (.int .i64 C.vars)).set_ 2 (.slice uA C.sts.length ucap)).set_ 3 (.slice rA C.trs.length rcap)).set_ 4 (.slice (some ⟨g,0,none⟩) C.sts.length C.sts.length)
  have HQ5:Hid (Blk (((((w4.setCell ⟨q,0,none⟩ (.pointer (some ⟨t,0,none⟩))).setCell ⟨q,1,none⟩ (.int .i64 C.vars)).setCell ⟨q,2,none⟩ (.slice uA C.sts.length ucap)).setCell ⟨q,3,none⟩ (.slice rA C.trs.length rcap)).setCell ⟨q,4,none⟩ (.slice (some ⟨g,0,none⟩) C.sts.length C.sts.length)) q 134 (mkCs t g (.slice uA C.sts.length ucap) (.slice rA C.trs.length rcap) C)):=Lib.hid hq
  have HC5:=Lib.hid (((((HY4.out.set_ne hn1 0 (.pointer (some ⟨t,0,none⟩))).set_ne hn1 1 (.int .i64 C.vars)).set_ne hn1 2 (.slice uA C.sts.length ucap)).set_ne hn1 3 (.slice rA C.trs.length rcap)).set_ne hn1 4 (.slice (some ⟨g,0,none⟩) C.sts.length C.sts.length))
  have HG5:=Lib.hid (WTab.none_yet (((((HG4.out.set_ne HN.out.1 0 (.pointer (some ⟨t,0,none⟩))).set_ne HN.out.1 1 (.int .i64 C.vars)).set_ne HN.out.1 2 (.slice uA C.sts.length ucap)).set_ne HN.out.1 3 (.slice rA C.trs.length rcap)).set_ne HN.out.1 4 (.slice (some ⟨g,0,none⟩) C.sts.length C.sts.length)))
  have hql:w1.heap.size≤q:=by have:=HN.out.2.2; omega
  have HB5:=Lib.hid (((((HB4.out.setCell (p:=⟨q,0,none⟩) hql (.pointer (some ⟨t,0,none⟩))).setCell (p:=⟨q,1,none⟩) hql (.int .i64 C.vars)).setCell (p:=⟨q,2,none⟩) hql (.slice uA C.sts.length ucap)).setCell (p:=⟨q,3,none⟩) hql (.slice rA C.trs.length rcap)).setCell (p:=⟨q,4,none⟩) hql (.slice (some ⟨g,0,none⟩) C.sts.length C.sts.length))
  generalize ((((w4.setCell ⟨q,0,none⟩ (.pointer (some ⟨t,0,none⟩))).setCell ⟨q,1,none⟩ (.int .i64 C.vars)).setCell ⟨q,2,none⟩ (.slice uA C.sts.length ucap)).setCell ⟨q,3,none⟩ (.slice rA C.trs.length rcap)).setCell ⟨q,4,none⟩ (.slice (some ⟨g,0,none⟩) C.sts.length C.sts.length)=w5 at *
  obtain ⟨⟨z0,z1,z2⟩,-⟩:=HC5.out.facts3
  clear p0 p1 p2 p3 p4 f0 f1 f2 f3 f4 hq hn1 hql HQ4 HY4 HG4 HB4
  go_wp2_with fail
  go_loopw [5] (fun i wr=>∃ k:Nat,k≤C.sts.length∧i=.int .i64 ((k:Int) - 1)∧Hid (Below w1.heap.size w1 wr)∧Hid (WTab wr g C.sts k)∧Hid (Blk wr q 134 (mkCs t g (.slice uA C.sts.length ucap) (.slice rA C.trs.length rcap) C))∧Hid (Blk wr w1.heap.size 25 #[.int .i64 C.vars,.slice uA C.sts.length ucap,.slice rA C.trs.length rcap])) (fun i _=>(intOf i+1).toNat)
  case atStart=>exact ⟨C.sts.length,Nat.le_refl _,by go_num,HB5,HG5,HQ5,HC5⟩
  case round =>
   clear HB5 HG5 HQ5 HC5 z0 z1 z2
   obtain ⟨k,hk,rfl,HB,HW,HQ,HC⟩:=hrel
   obtain ⟨wo,rfl⟩:∃ wo:World,wo=wr:=⟨_,rfl⟩
   obtain ⟨⟨p0,p1,p2,p3,p4⟩,-⟩:=blk5_facts HQ.out
   by_cases h0:k=0
   · subst h0
     go_wp2_with fail
     go_ret
     exact ⟨HB1.out.trans (HB.out.mono HB1.out.size),g,rfl,by have:=HN.out.2.1; have:=HB1.out.size; omega,HW.out⟩
   · obtain ⟨j,rfl⟩:∃ j,k=j+1:=⟨k - 1,by omega⟩
     have e1:((j+1:Nat):Int) - 1=(j:Int):=by omega
     rw [e1]
     have hge:decide (0≤(j:Int))=true:=by simp
     have hjl:j < C.sts.length:=by omega
     have HJ:=Lib.hid (isSt_of hjl)
     clear e1
     go_wp2_with fail
     refine anyD_start (mkS q w1.heap.size t g (.slice uA C.sts.length ucap) (.slice rA C.trs.length rcap) C) (fun i=>[21].contains i) (by kernel_rfl) ?_
     try simp only [Act.put,sx]
     have HCS:Hid (∀ W:World,Below wo.heap.size wo W→mkS q w1.heap.size t g (.slice uA C.sts.length ucap) (.slice rA C.trs.length rcap) C W):=Lib.hid fun W hb=>mkS_of HQ.out HC.out hb HQ.out.lt HC.out.lt
     have HBD:=Lib.hid ((Below.refl wo.heap.size wo).drew)
     have HCL:Hid (∀ W:World,Below wo.heap.size wo W→TreeAt W t C∧WMk W t g (.slice uA C.sts.length ucap) (.slice rA C.trs.length rcap) C (j+1)):=Lib.hid fun W hb=>by
      have h1:=HB.out.trans (hb.mono HB.out.size)
      have ht:=HT.out.below (HB1.out.trans (h1.mono HB1.out.size))
      exact ⟨ht,ht,HC1.out.below h1,HW.out.below hb⟩
     have hcs:=HCS.out _ HBD.out
     generalize wo.drew=w6 at *
     clear p0 p1 p2 p3 p4 hge
     have hjn:(j:Int) < (C.sts.length:Int):=by omega
     refine anyD_t 0 (.pointer (some ⟨q,4,none⟩)) ?_
     try simp only [Act.put,sx]
     refine anyD_l 1 (.slice (some ⟨g,0,none⟩) C.sts.length C.sts.length) (hcs) ?_
     try simp only [Act.put,sx]
     refine anyD_t 2 (.int .i64 (j:Int)) ?_
     try simp only [Act.put,sx]
     refine anyD_t 3 (.pointer (some ⟨t,0,none⟩)) ?_
     try simp only [Act.put,sx]
     refine anyD_t 4 (.int .i64 (j:Int)) ?_
     try simp only [Act.put,sx]
     refine anyD_t 7 (.pointer (some ⟨t,0,none⟩)) ?_
     try simp only [Act.put,sx]
     refine anyD_t 8 (.int .i64 (j:Int)) ?_
     try simp only [Act.put,sx]
     refine anyD_t 10 (.pointer (some ⟨t,0,none⟩)) ?_
     try simp only [Act.put,sx]
     refine anyD_t 11 (.int .i64 (j:Int)) ?_
     try simp only [Act.put,sx]
     refine anyD_l 13 (mkV t g (.slice uA C.sts.length ucap) (.slice rA C.trs.length rcap) C) (hcs) ?_
     try simp only [Act.put,sx]
     refine anyD_t 14 (.int .i64 (j:Int)) ?_
     try simp only [Act.put,sx]
     refine anyD_l 16 (.agg #[.int .i64 C.vars,.slice uA C.sts.length ucap,.slice rA C.trs.length rcap]) (hcs) ?_
     try simp only [Act.put,sx]
     refine anyD_t 17 (.int .i64 (j:Int)) ?_
     try simp only [Act.put,sx]
     clear hcs
     refine anyD_one (i:=5) rfl rfl (by kernel_rfl) (fun K HK=>?_)
     go_simp
     refine (upsT_any t (j:Int) C _ (HCL.out _ HBD.out).1 (by omega) HRT.out).mono ?_
     rintro e w7 ⟨hb7,v7,rfl,ho7⟩
     have hL7:=list_of_own ho7
     obtain ⟨vA,vcap,rfl⟩:=own_slice ho7
     have HB7:=Lib.hid (HBD.out.trans (hb7.mono HBD.out.size))
     have HL7:=Lib.hid hL7
     have hcs7:=HCS.out _ HB7.out
     clear hb7 ho7 hL7
     go_simp
     refine HK.out _ _ (fun _ hS=>hcs7) ?_
     clear HK K
     try simp only [Act.put,sx]
     clear hcs7
     refine anyD_one (i:=6) rfl rfl (by kernel_rfl) (fun K HK=>?_)
     go_simp
     refine (setOf_any C.sts.length (by omega) _ (ups C.sts (j:Int)) _ HL7.out (Nat.le_trans (ups_short C.sts (j:Int)) (by omega)) (fun x hx=>isSt_nat (up_state HTA.out hx).1)).mono ?_
     rintro e w8 ⟨rfl,hb8⟩
     have HB8:=Lib.hid (HB7.out.trans (hb8.mono HB7.out.size))
     have hcs8:=HCS.out _ HB8.out
     clear hb8 HB7 HL7
     go_simp
     refine HK.out _ _ (fun _ hS=>hcs8) ?_
     clear HK K
     try simp only [Act.put,sx]
     clear hcs8
     refine anyD_one (i:=9) rfl rfl (by kernel_rfl) (fun K HK=>?_)
     go_simp
     refine (below_any t (j:Int) C _ (HCL.out _ HB8.out).1 (by omega) HRT.out).mono ?_
     rintro e w9 ⟨rfl,rfl⟩
     have hcs8:=HCS.out _ HB8.out
     go_simp
     refine HK.out _ _ (fun _ hS=>hcs8) ?_
     clear HK K
     try simp only [Act.put,sx]
     clear hcs8
     refine anyD_one (i:=12) rfl rfl (by kernel_rfl) (fun K HK=>?_)
     go_simp
     refine (tkids_any t (j:Int) C _ (HCL.out _ HB8.out).1 (by omega) HJ.out).mono ?_
     rintro e w9 ⟨rfl,hb9⟩
     have HB9:=Lib.hid (HB8.out.trans (hb9.mono HB8.out.size))
     have hcs9:=HCS.out _ HB9.out
     clear hb9 HB8
     go_simp
     refine HK.out _ _ (fun _ hS=>hcs9) ?_
     clear HK K
     try simp only [Act.put,sx]
     clear hcs9
     refine anyD_one (i:=15) rfl rfl (by kernel_rfl) (fun K HK=>?_)
     go_simp
     refine (entered_any j (HCL.out _ HB9.out).2 HTA.out HRT.out hjl).mono ?_
     rintro e w10 ⟨rfl,hb10⟩
     have HB10:=Lib.hid (HB9.out.trans (hb10.mono HB9.out.size))
     have hcs10:=HCS.out _ HB10.out
     clear hb10 HB9
     go_simp
     refine HK.out _ _ (fun _ hS=>hcs10) ?_
     clear HK K
     try simp only [Act.put,sx]
     clear hcs10
     refine anyD_one (i:=18) rfl rfl (by kernel_rfl) (fun K HK=>?_)
     go_simp
     refine (from_any (j:Int) _ _ C _ (HCL.out _ HB10.out).2.chart.2 (by omega)).mono ?_
     rintro e w11 ⟨hb11,v11,rfl,ho11⟩
     obtain ⟨lA,lcap,rfl⟩:=own_slice ho11
     have HB11:=Lib.hid (HB10.out.trans (hb11.mono HB10.out.size))
     have hcs11:=HCS.out _ HB11.out
     generalize (frmU C.trs (j:Int) C.trs.length).length=ln at *
     clear hb11 HB10 ho11
     go_simp
     refine HK.out _ _ (fun _ hS=>hcs11) ?_
     clear HK K
     try simp only [Act.put,sx]
     clear hcs11
     have HWL:=Lib.hid (HW.out.below HB11.out)
     obtain ⟨⟨a0,r0⟩,⟨a1,r1⟩,⟨a2,r2⟩,⟨a3,r3⟩,⟨a4,r4⟩⟩:=HWL.out.olds hjl
     have s0:=HWL.out.froz (j * 5)
     have s1:=HWL.out.froz (j * 5+1)
     have s2:=HWL.out.froz (j * 5+2)
     have s3:=HWL.out.froz (j * 5+3)
     have s4:=HWL.out.froz (j * 5+4)
     have HWN:=Lib.hid (HWL.out.put hjl lA ln lcap)
     have hgl:w1.heap.size≤g:=by have:=HN.out.2.1; omega
     have HBF:=Lib.hid (HB.out.trans (HB11.out.mono HB.out.size))
     have HQL:=Lib.hid (HQ.out.below HB11.out HQ.out.lt)
     have HCL2:=Lib.hid (HC.out.below HB11.out HC.out.lt)
     have hn1:q ≠ g:=Ne.symm HN.out.1
     have hn2:w1.heap.size ≠ g:=by have:=HN.out.2.1; omega
     generalize bset (inL (ups C.sts (j:Int))) C.sts.length=n0 at *
     generalize belowN C.sts (j:Int)=n1 at *
     generalize bset (kidB C.sts (j:Int)) C.sts.length=n2 at *
     generalize bset (defT C.sts (j:Int)) C.sts.length=n3 at *
     have HBN:=Lib.hid (((((HBF.out.setCell (p:=⟨g,j * 5,none⟩) hgl (.int .u32 (n0:Int))).setCell (p:=⟨g,j * 5+1,none⟩) hgl (.int .u32 (n1:Int))).setCell (p:=⟨g,j * 5+2,none⟩) hgl (.int .u32 (n2:Int))).setCell (p:=⟨g,j * 5+3,none⟩) hgl (.int .u32 (n3:Int))).setCell (p:=⟨g,j * 5+4,none⟩) hgl (.slice lA ln lcap))
     have HQN:=Lib.hid (((((HQL.out.set_ne hn1 (j * 5) (.int .u32 (n0:Int))).set_ne hn1 (j * 5+1) (.int .u32 (n1:Int))).set_ne hn1 (j * 5+2) (.int .u32 (n2:Int))).set_ne hn1 (j * 5+3) (.int .u32 (n3:Int))).set_ne hn1 (j * 5+4) (.slice lA ln lcap))
     have HCN:=Lib.hid (((((HCL2.out.set_ne hn2 (j * 5) (.int .u32 (n0:Int))).set_ne hn2 (j * 5+1) (.int .u32 (n1:Int))).set_ne hn2 (j * 5+2) (.int .u32 (n2:Int))).set_ne hn2 (j * 5+3) (.int .u32 (n3:Int))).set_ne hn2 (j * 5+4) (.slice lA ln lcap))
     refine anyD_t 19 (.agg #[.int .u32 (n0:Int),.int .u32 (n1:Int),.int .u32 (n2:Int),.int .u32 (n3:Int),.slice lA ln lcap]) ?_
     try simp only [Act.put,sx]
     refine anyD_t 20 (.pointer (some ⟨g,j * 5,none⟩)) ?_
     try simp only [Act.put,sx]
     refine anyD_one (i:=21) rfl rfl (by kernel_rfl) (fun K HK=>?_)
     go_simp
     refine HK.out _ _ (fun h=>absurd h (by decide)) ?_
     clear HK K
     try simp only [Act.put,sx]
     refine anyD_done (by kernel_rfl) ?_
     clear HWL HBF HQL HCL2 r0 r1 r2 r3 r4 s0 s1 s2 s3 s4
     go_wp2_with fail
     go_roundw
     case rel=>exact ⟨j,by omega,by go_num,HBN,HWN,HQN,HCN⟩
     case measure=>simp [intOf]
end Go.Proofs.YtmhkpjcdkjnlnaaGreatDoor
