/- The walk of the law MacroPlays: true for any chart and events. -/
import Derived.Test.YtmhkpjcdkjnlnaaGreatDoorFUUtr
import Derived.Test.YtmhkpjcdkjnlnaaGreatDoorFUSwo
import Derived.Test.YtmhkpjcdkjnlnaaGreatDoorFUCarg
namespace Go.Proofs.YtmhkpjcdkjnlnaaGreatDoor
open Go.ChangeShapes Go.WideShapes Go.ChangeAt Go.RowKit
set_option linter.unusedVariables false

set_option maxHeartbeats 8000000 in
set_option maxRecDepth 100000 in
theorem ulaw1_any (vs vt vl:Value) (C:Ch) (l:List Int) (w:World) (hL:Laid w) (hC:ChHas w vs vt C) (hS:ShortCh C) (hv:ListAt w vl l) :
 Calls Tryz.prog 4 #[.agg #[.int .i64 C.vars,vs,vt],vl] w fun e w'=>e=.returned (.bool true)∧Below w.heap.size w w':=by
 obtain ⟨sA,scap,tA,tcap,rfl,rfl⟩:=hC.slices
 obtain ⟨lA,lcap,rfl,hlcap⟩:=RowsAt.slice hv
 have HL:=Lib.hid hL
 have HL0:=Lib.hid (hL.after (below_box w (chBox C.vars (.slice sA C.sts.length scap) (.slice tA C.trs.length tcap))))
 have HF:=Lib.hid (fun (W:World) (h:Below (w.alloc (chBox C.vars (.slice sA C.sts.length scap) (.slice tA C.trs.length tcap))).heap.size (w.alloc (chBox C.vars (.slice sA C.sts.length scap) (.slice tA C.trs.length tcap))) W)=>few_any C.vars (.slice sA C.sts.length scap) (.slice tA C.trs.length tcap) C W (hC.below (below_boxed h)) hS)
 have HC:=Lib.hid hC
 have HV:=Lib.hid hv
 have HCH:=Lib.hid (fun (W:World) (hF:fewB C=true) (h:Below (w.alloc (chBox C.vars (.slice sA C.sts.length scap) (.slice tA C.trs.length tcap))).heap.size (w.alloc (chBox C.vars (.slice sA C.sts.length scap) (.slice tA C.trs.length tcap))) W)=>new_any (.slice sA C.sts.length scap) (.slice tA C.trs.length tcap) C W (hL.after (below_boxed h)) (hC.below (below_boxed h)) hF)
 have hnn:=neq_nil_nil
 have hnc:=fun p W=>neq_code_any p W
 have hns:=fun p W=>neq_spot_any p W
 clear hL hC hS hv hlcap
 cases hf:fewB C with
 | false =>
  have HFF:=Lib.hid hf
  clear hf
  go_enter Tryz.func4,Tryz.ntmps4
  go_wp2_with fail
  refine (upM_any _ HL0.out).mono ?_
  rintro e w1 ⟨rfl,hb1⟩
  obtain ⟨x0,x1,x2⟩:=box_later hb1
  have HB1:=Lib.hid hb1
  clear hb1
  go_wp2_with fail
  refine (HF.out _ HB1.out).mono ?_
  rintro e w2 ⟨rfl,hb2⟩
  have hB2:=HB1.out.trans (hb2.mono HB1.out.size)
  clear x0 x1 x2
  obtain ⟨x0,x1,x2⟩:=box_later hB2
  have HB2:=Lib.hid hB2
  rw [HFF.out]
  clear hb2 hB2
  go_wp2_with fail
  go_ret
  exact ⟨rfl,below_boxed HB2.out⟩
 | true =>
  have HFF:=Lib.hid hf
  clear hf
  by_cases h12:l.length≤12
  · have HCK:=Lib.hid (fun (W:World) h=>HCH.out W HFF.out h)
    have h12b:decide ((12:Int) < (l.length:Int))=false:=decide_eq_false (by omega)
    by_cases hok:chk hasTB C=.ok
    · have HOK:=Lib.hid (chk_mk hok HFF.out)
      have hcl:=(tame_of hok).len
      have hno:=fun t W=>nilT_no t W
      obtain ⟨sn,hsn⟩:∃ sn:Nat,C.vars=(sn:Int):=⟨C.vars.toNat,by have:=(vars_of hok).1; omega⟩
      have HSN:=Lib.hid hsn
      have HHK:=Lib.hid hok
      clear hok hsn
      go_enter Tryz.func4,Tryz.ntmps4
      go_wp2_with fail
      refine (upM_any _ HL0.out).mono ?_
      rintro e w1 ⟨rfl,hb1⟩
      obtain ⟨x0,x1,x2⟩:=box_later hb1
      have HB1:=Lib.hid hb1
      clear hb1
      go_wp2_with fail
      refine (HF.out _ HB1.out).mono ?_
      rintro e w2 ⟨rfl,hb2⟩
      have hB2:=HB1.out.trans (hb2.mono HB1.out.size)
      clear x0 x1 x2
      obtain ⟨x0,x1,x2⟩:=box_later hB2
      have HB2:=Lib.hid hB2
      rw [HFF.out]
      clear hb2 hB2
      go_wp2_with fail
      refine (HCK.out _ HB2.out).mono ?_
      intro e w3 hp
      obtain ⟨hb3,t,rfl,ht,hT⟩:=npost_yes hp HOK.out.chk
      have HB3:=Lib.hid (HB2.out.trans (hb3.mono HB2.out.size))
      have HT3:=Lib.hid hT
      have HL3:=Lib.hid (HL.out.after (below_boxed HB3.out))
      have HV3:=Lib.hid (HV.out.below (below_boxed HB3.out))
      have HC3:=Lib.hid (HC.out.below (below_boxed HB3.out))
      have HX3:=Lib.hid ((Blk.new w 25 #[.int .i64 C.vars,.slice sA C.sts.length scap,.slice tA C.trs.length tcap]).below HB3.out (by simp))
      clear hb3 hp hT ht x0 x1 x2 HF HCH HCK HL0 HV HC HL
      obtain ⟨x0,x1,x2⟩:=box_later HB3.out
      go_wp2_with fail
      refine (mstart_any HL3.out HT3.out HOK.out).mono ?_
      have HST:=Lib.hid (start_ok HOK.out)
      generalize startS C=Y at *
      rintro e w4 ⟨hb4,vh4,ve4,vi4,vo4,rfl,hm4⟩
      obtain ⟨hA,hcap,rfl⟩:=hm4.hist.slice
      obtain ⟨eA,ecap,rfl⟩:=OwnEnv.slice hm4.env
      obtain ⟨iA,icap,rfl⟩:=hm4.ins.slice
      obtain ⟨oA,ocap,rfl⟩:=own_slice hm4.out
      have HBX:=Lib.hid (below_box w4 (.cells #[.int .u32 ((bset Y.a C.sts.length:Nat):Int),.slice hA Y.hist.length hcap,.slice eA Y.env.length ecap,.slice iA Y.ins.length icap,.int .i64 Y.st] 38))
      have HK5:Hid (BxAt w3.heap.size (w4.alloc (.cells #[.int .u32 ((bset Y.a C.sts.length:Nat):Int),.slice hA Y.hist.length hcap,.slice eA Y.env.length ecap,.slice iA Y.ins.length icap,.int .i64 Y.st] 38)) w4.heap.size C (.slice hA Y.hist.length hcap) (.slice eA Y.env.length ecap) (.slice iA Y.ins.length icap) (.slice oA Y.out.length ocap) Y):=Lib.hid ⟨Blk.new w4 _ _,hm4.below HBX.out⟩
      have HR5:Hid (w3.heap.size≤w4.heap.size):=Lib.hid hb4.size
      have HB5:=Lib.hid (hb4.trans (HBX.out.mono hb4.size))
      clear hb4 hm4 HBX x0 x1 x2
      go_wp2_with fail
      generalize w4.alloc (.cells #[.int .u32 ((bset Y.a C.sts.length:Nat):Int),.slice hA Y.hist.length hcap,.slice eA Y.env.length ecap,.slice iA Y.ins.length icap,.int .i64 Y.st] 38)=w5 at *
      generalize w4.heap.size=r at *
      have HWH:=Lib.hid (fun (W:World) (Y:Se) (hb:Below w3.heap.size w3 W) (ho:Oka C Y)=>by
       have h:=rwhole_any (sn:Int) (.slice sA C.sts.length scap) (.slice tA C.trs.length tcap) C (bitN (cfN C Y)) W (HC3.out.below hb) (tame_of HHK.out) ho.1.wb
       rw [cfN_bit] at h
       exact h)
      have HX:=Lib.hid (fun (W:World) (hb:Below w3.heap.size w3 W)=>by
       have h:=(HX3.out.below hb HX3.out.lt).facts3.1
       rw [HSN.out] at h
       exact h)
      go_loopw [11] (fun i wr=>∃ (m:Nat) (Y:Se) (vh ve vi vo:Value),m≤l.length∧i=.int .i64 (m:Int)∧Hid (Below w3.heap.size w3 wr)∧Hid (BxAt w3.heap.size wr r C vh ve vi vo Y)∧Hid (Oka C Y)) (fun i _=>l.length - (intOf i).toNat)
      case atStart=>exact ⟨0,Y,_,_,_,_,Nat.zero_le _,rfl,HB5,HK5,HST⟩
      case round =>
       clear HB5 HK5 HST
       obtain ⟨m,Y,vh,ve,vi,vo,hm,rfl,HB,HK,HO⟩:=hrel
       obtain ⟨w6,rfl⟩:∃ w6:World,w6=wr:=⟨_,rfl⟩
       obtain ⟨hA,hcap,rfl⟩:=HK.out.rows.hist.slice
       obtain ⟨eA,ecap,rfl⟩:=OwnEnv.slice HK.out.rows.env
       obtain ⟨iA,icap,rfl⟩:=HK.out.rows.ins.slice
       obtain ⟨oA,ocap,rfl⟩:=own_slice HK.out.rows.out
       have hel:Y.env.length=sn:=by have h1:=HO.out.1.el; have h2:=HSN.out; omega
       rw [hel] at HK
       obtain ⟨yl,hyl⟩:∃ yl,Y.ins.length=yl:=⟨_,rfl⟩
       have HYL:=Lib.hid hyl
       rw [hyl] at HK
       clear hel hyl
       obtain ⟨x0,x1,x2⟩:=HX.out w6 HB.out
       obtain ⟨⟨c0,c1,c2,c3,c4⟩,-⟩:=blk5_facts HK.out.blk
       by_cases hlt:m < l.length
       · go_wp2_with fail
         refine (HWH.out w6 Y HB.out HO.out).mono ?_
         rintro e w7 ⟨rfl,hb7⟩
         have HB7:=Lib.hid (HB.out.trans (hb7.mono HB.out.size))
         have HK7:=Lib.hid (HK.out.below hb7)
         clear hb7 HB HK x0 x1 x2 c0 c1 c2 c3 c4
         obtain ⟨_,_,z1,_,z3⟩:=HV3.out
         injection z1 with e1 e2 e3
         subst e1
         obtain ⟨bb,oo,hAA,hbl,hc⟩:=z3 m _ (List.getElem?_eq_getElem hlt)
         subst hAA
         have HVC:Hid (∀ W,Below w3.heap.size w3 W→W.cell? ⟨bb,oo+m,none⟩=some (.int .i64 l[m])):=Lib.hid (fun W hb=>by
          have h:w3.cell? ⟨bb,oo+m,none⟩=some (.int .i64 l[m]):=by have:=hc; unfold IntAt at this; rwa [Nat.mul_one] at this
          exact (hb.cell hbl).trans h)
         generalize l[m]=ev at *
         clear z3 e2 e3 hc hbl
         obtain ⟨x0,x1,x2⟩:=HX.out w7 HB7.out
         obtain ⟨⟨c0,c1,c2,c3,c4⟩,-⟩:=blk5_facts HK7.out.blk
         have HTK:=Lib.hid (fun (W:World) (hb:Below w3.heap.size w3 W) (hk:BxAt w3.heap.size W r C (.slice hA Y.hist.length hcap) (.slice eA sn ecap) (.slice iA yl icap) (.slice oA Y.out.length ocap) Y)=>mtake_any (HL3.out.after hb) (HT3.out.below hb) HOK.out _ hk.run HO.out.1 ev)
         have HOZ:=Lib.hid (HO.out.take HOK.out ev)
         have HZ1:Hid (Y.st ≠ 1→takeS C ev Y.hush=Y.hush):=Lib.hid (fun h=>by unfold takeS; rw [if_neg (show ¬ Y.hush.st=1 from h)])
         have HBD:Hid (Y.hist.length≤1000∧Y.env.length≤1000∧Y.ins.length≤1000000):=Lib.hid ⟨by rw [HO.out.1.hl]; omega,by rw [HO.out.1.el]; have:=HOK.out.vars; omega,by have:=HO.out.1.big; omega⟩
         generalize takeS C ev Y.hush=Z at *
         by_cases hs:Y.st=1
         · have HS:=Lib.hid hs
           have hy:yl=0:=by rw [← HYL.out,(HO.out.2 hs).ins]; rfl
           clear HYL
           subst hy
           rw [hs] at c4 HTK
           clear hs
           go_wp2_with fail
           refine anyD_start (fun W=>(W.cell? ⟨r,0,none⟩=some (.int .u32 ((bset Y.a C.sts.length:Nat):Int))∧W.cell? ⟨r,1,none⟩=some (.slice hA Y.hist.length hcap)∧W.cell? ⟨r,2,none⟩=some (.slice eA sn ecap)∧W.cell? ⟨r,3,none⟩=some (.slice iA 0 icap)∧W.cell? ⟨r,4,none⟩=some (.int .i64 1))∧W.cell? ⟨bb,oo+m,none⟩=some (.int .i64 ev)) (fun i=>[11].contains i) (by kernel_rfl) ?_
           try simp only [Act.put,sx]
           have HB8:=Lib.hid HB7.out.drew
           have HK8:=Lib.hid (HK7.out.below (Below.refl _ _).drew)
           clear HB7 HK7 x0 x1 x2 c0 c1 c2 c3 c4
           generalize w7.drew=w8 at *
           refine anyD_via (by intros; rfl) fun N PP HN=>?_
           have HCS:Hid (∀ W:World,Below w8.heap.size w8 W→(W.cell? ⟨r,0,none⟩=some (.int .u32 ((bset Y.a C.sts.length:Nat):Int))∧W.cell? ⟨r,1,none⟩=some (.slice hA Y.hist.length hcap)∧W.cell? ⟨r,2,none⟩=some (.slice eA sn ecap)∧W.cell? ⟨r,3,none⟩=some (.slice iA 0 icap)∧W.cell? ⟨r,4,none⟩=some (.int .i64 1))∧W.cell? ⟨bb,oo+m,none⟩=some (.int .i64 ev)):=Lib.hid (fun W hb=>by
            have h:=(blk5_facts (HK8.out.below hb).blk).1
            rw [HS.out] at h
            exact ⟨h,HVC.out W (HB8.out.trans (hb.mono HB8.out.size))⟩)
           have hcs:=HCS.out w8 (Below.refl _ _)
           refine anyD_t 0 (.pointer (some ⟨t,0,none⟩)) ?_
           try simp only [Act.put,sx]
           refine anyD_l 1 (.agg #[.int .u32 ((bset Y.a C.sts.length:Nat):Int),.slice hA Y.hist.length hcap,.slice eA sn ecap,.slice iA 0 icap,.int .i64 1]) (hcs) ?_
           try simp only [Act.put,sx]
           refine anyD_t 2 (.slice (some ⟨bb,oo,none⟩) l.length lcap) ?_
           try simp only [Act.put,sx]
           refine anyD_t 3 (.int .i64 (m:Int)) ?_
           try simp only [Act.put,sx]
           refine anyD_t 4 (.pointer (some ⟨bb,oo+m,none⟩)) ?_
           try simp only [Act.put,sx]
           refine anyD_l 5 (.int .i64 ev) (hcs) ?_
           try simp only [Act.put,sx]
           clear hcs
           refine take_region (by kernel_rfl) (by kernel_rfl) (fun W hb=>HCS.out W hb) (fun W hb=>HTK.out W (HB8.out.trans (hb.mono HB8.out.size)) (HK8.out.below hb)) ?_
           intro w11 q uA ucap fA fcap jA jcap oB obcap hb11 hq11 hQ hM
           have HB11:=Lib.hid (HB8.out.trans (hb11.mono HB8.out.size))
           have HK11:=Lib.hid (HK8.out.below hb11)
           have HM11:=Lib.hid (hM.lower HB8.out.size)
           have HQ11:=Lib.hid hQ
           have HNE:Hid (r ≠ q):=Lib.hid (by have:=HK8.out.blk.lt; omega)
           clear hQ hM hb11 hq11 HCS HTK HK8 HB8
           refine HN.out _ _ ?_
           obtain ⟨⟨c0,c1,c2,c3,c4⟩,f0,f1,f2,f3,f4⟩:=blk5_facts HK11.out.blk
           rw [HS.out] at c4
           obtain ⟨⟨p0,p1,p2,p3,p4⟩,-⟩:=blk5_facts HQ11.out
           have HKZ:=Lib.hid (HK11.out.put HM11.out)
           have HBZ:=Lib.hid (below_set5 HB11.out HR5.out (.int .u32 ((bset Z.a C.sts.length:Nat):Int)) (.slice uA Z.hist.length ucap) (.slice fA Z.env.length fcap) (.slice jA Z.ins.length jcap) (.int .i64 Z.st))
           simp only [set5,Nat.zero_add] at HKZ HBZ
           go_wp2_with fail
           go_roundw
           case rel=>exact ⟨m+1,Z,_,_,_,_,by omega,by go_num,HBZ,HKZ,HOZ⟩
           case measure=>simp [intOf]; omega
         · have HS:=Lib.hid hs
           obtain ⟨sv,hsv⟩:∃ sv,Y.st=sv:=⟨_,rfl⟩
           have HSV:=Lib.hid hsv
           rw [hsv] at c4 HTK
           have hne1:((sv:Int) == 1)=false:=beq_false_of_ne (by rw [← hsv]; exact hs)
           clear hsv
           clear hs
           go_wp2_with fail
           refine anyD_start (fun W=>(W.cell? ⟨r,0,none⟩=some (.int .u32 ((bset Y.a C.sts.length:Nat):Int))∧W.cell? ⟨r,1,none⟩=some (.slice hA Y.hist.length hcap)∧W.cell? ⟨r,2,none⟩=some (.slice eA sn ecap)∧W.cell? ⟨r,3,none⟩=some (.slice iA yl icap)∧W.cell? ⟨r,4,none⟩=some (.int .i64 sv))∧W.cell? ⟨bb,oo+m,none⟩=some (.int .i64 ev)) (fun i=>[11].contains i) (by kernel_rfl) ?_
           try simp only [Act.put,sx]
           have HB8:=Lib.hid HB7.out.drew
           have HK8:=Lib.hid (HK7.out.below (Below.refl _ _).drew)
           clear HB7 HK7 x0 x1 x2 c0 c1 c2 c3 c4 hne1
           generalize w7.drew=w8 at *
           refine anyD_via (by intros; rfl) fun N PP HN=>?_
           have HCS:Hid (∀ W:World,Below w8.heap.size w8 W→(W.cell? ⟨r,0,none⟩=some (.int .u32 ((bset Y.a C.sts.length:Nat):Int))∧W.cell? ⟨r,1,none⟩=some (.slice hA Y.hist.length hcap)∧W.cell? ⟨r,2,none⟩=some (.slice eA sn ecap)∧W.cell? ⟨r,3,none⟩=some (.slice iA yl icap)∧W.cell? ⟨r,4,none⟩=some (.int .i64 sv))∧W.cell? ⟨bb,oo+m,none⟩=some (.int .i64 ev)):=Lib.hid (fun W hb=>by
            have h:=(blk5_facts (HK8.out.below hb).blk).1
            rw [HSV.out] at h
            exact ⟨h,HVC.out W (HB8.out.trans (hb.mono HB8.out.size))⟩)
           have hcs:=HCS.out w8 (Below.refl _ _)
           refine anyD_t 0 (.pointer (some ⟨t,0,none⟩)) ?_
           try simp only [Act.put,sx]
           refine anyD_l 1 (.agg #[.int .u32 ((bset Y.a C.sts.length:Nat):Int),.slice hA Y.hist.length hcap,.slice eA sn ecap,.slice iA yl icap,.int .i64 sv]) (hcs) ?_
           try simp only [Act.put,sx]
           refine anyD_t 2 (.slice (some ⟨bb,oo,none⟩) l.length lcap) ?_
           try simp only [Act.put,sx]
           refine anyD_t 3 (.int .i64 (m:Int)) ?_
           try simp only [Act.put,sx]
           refine anyD_t 4 (.pointer (some ⟨bb,oo+m,none⟩)) ?_
           try simp only [Act.put,sx]
           refine anyD_l 5 (.int .i64 ev) (hcs) ?_
           try simp only [Act.put,sx]
           clear hcs
           refine take_region (by kernel_rfl) (by kernel_rfl) (fun W hb=>HCS.out W hb) (fun W hb=>HTK.out W (HB8.out.trans (hb.mono HB8.out.size)) (HK8.out.below hb)) ?_
           intro w11 q uA ucap fA fcap jA jcap oB obcap hb11 hq11 hQ hM
           have hzo:Z.out.length=0:=by rw [HZ1.out HS.out]; rfl
           rw [hzo] at hM ⊢
           have HB11:=Lib.hid (HB8.out.trans (hb11.mono HB8.out.size))
           have HK11:=Lib.hid (HK8.out.below hb11)
           have HM11:=Lib.hid (hM.lower HB8.out.size)
           have HQ11:=Lib.hid hQ
           have HNE:Hid (r ≠ q):=Lib.hid (by have:=HK8.out.blk.lt; omega)
           clear hQ hM hb11 hq11 HCS HTK HK8 HB8 hzo
           refine HN.out _ _ ?_
           obtain ⟨⟨c0,c1,c2,c3,c4⟩,f0,f1,f2,f3,f4⟩:=blk5_facts HK11.out.blk
           rw [HSV.out] at c4
           obtain ⟨⟨p0,p1,p2,p3,p4⟩,-⟩:=blk5_facts HQ11.out
           have hne1:((sv:Int) == 1)=false:=beq_false_of_ne (by rw [← HSV.out]; exact HS.out)
           have hne2:((sv:Int) != 1)=true:=by rw [bne,hne1]; rfl
           have hne3:¬ sv=1:=by rw [← HSV.out]; exact HS.out
           have HRR:Hid (RunAt w11 C.sts.length (.agg #[.int .u32 ((bset Y.a C.sts.length:Nat):Int),.slice hA Y.hist.length hcap,.slice eA sn ecap,.slice iA yl icap,.int .i64 sv]) Y.hush):=Lib.hid (by have h:=HK11.out.run; rw [HSV.out] at h; exact h)
           have HRZ:Hid (RunAt w11 C.sts.length (.agg #[.int .u32 ((bset Z.a C.sts.length:Nat):Int),.slice uA Z.hist.length ucap,.slice fA Z.env.length fcap,.slice jA Z.ins.length jcap,.int .i64 Z.st]) Y.hush):=Lib.hid (by rw [← HZ1.out HS.out]; exact HM11.out.run)
           go_wp2_with fail
           refine (same12_any _ _ C.sts.length Y.hush _ HRR.out HRZ.out HBD.out.1 HBD.out.2.1 HBD.out.2.2).mono ?_
           rintro e w12 ⟨rfl,hb12⟩
           have HK12:=Lib.hid (HK11.out.below hb12)
           have HM12:=Lib.hid (HM11.out.below hb12)
           have HQ12:=Lib.hid (HQ11.out.below hb12 HQ11.out.lt)
           have HB12:=Lib.hid (HB11.out.trans (hb12.mono HB11.out.size))
           clear hb12 HK11 HM11 HQ11 HB11 HRR HRZ c0 c1 c2 c3 c4 f0 f1 f2 f3 f4 p0 p1 p2 p3 p4 hne1 hne2 hne3
           obtain ⟨⟨c0,c1,c2,c3,c4⟩,f0,f1,f2,f3,f4⟩:=blk5_facts HK12.out.blk
           rw [HSV.out] at c4
           obtain ⟨⟨p0,p1,p2,p3,p4⟩,-⟩:=blk5_facts HQ12.out
           have HKZ:=Lib.hid (HK12.out.put HM12.out)
           have HBZ:=Lib.hid (below_set5 HB12.out HR5.out (.int .u32 ((bset Z.a C.sts.length:Nat):Int)) (.slice uA Z.hist.length ucap) (.slice fA Z.env.length fcap) (.slice jA Z.ins.length jcap) (.int .i64 Z.st))
           simp only [set5,Nat.zero_add] at HKZ HBZ
           go_wp2_with fail
           go_roundw
           case rel=>exact ⟨m+1,Z,_,_,_,_,by omega,by go_num,HBZ,HKZ,HOZ⟩
           case measure=>simp [intOf]; omega
       · obtain rfl:m=l.length:=by omega
         go_wp2_with fail
         refine (HWH.out w6 Y HB.out HO.out).mono ?_
         rintro e w7 ⟨rfl,hb7⟩
         have HB7:=Lib.hid (HB.out.trans (hb7.mono HB.out.size))
         clear hb7
         go_wp2_with fail
         go_ret
         exact ⟨rfl,below_boxed (HB3.out.trans (HB7.out.mono HB3.out.size))⟩
    · have HOK:=Lib.hid hok
      clear hok
      go_enter Tryz.func4,Tryz.ntmps4
      go_wp2_with fail
      refine (upM_any _ HL0.out).mono ?_
      rintro e w1 ⟨rfl,hb1⟩
      obtain ⟨x0,x1,x2⟩:=box_later hb1
      have HB1:=Lib.hid hb1
      clear hb1
      go_wp2_with fail
      refine (HF.out _ HB1.out).mono ?_
      rintro e w2 ⟨rfl,hb2⟩
      have hB2:=HB1.out.trans (hb2.mono HB1.out.size)
      clear x0 x1 x2
      obtain ⟨x0,x1,x2⟩:=box_later hB2
      have HB2:=Lib.hid hB2
      rw [HFF.out]
      clear hb2 hB2
      go_wp2_with fail
      refine (HCK.out _ HB2.out).mono ?_
      intro e w3 hp
      obtain ⟨hb3,hv⟩:=npost_no hp HOK.out
      have HB3:=Lib.hid (HB2.out.trans (hb3.mono HB2.out.size))
      clear hb3 hp x0 x1 x2
      rcases hv with ⟨p,rfl⟩ | ⟨p,rfl⟩
      · go_wp2_with fail
        go_ret
        exact ⟨rfl,below_boxed HB3.out⟩
      · go_wp2_with fail
        go_ret
        exact ⟨rfl,below_boxed HB3.out⟩
  · have h12b:decide ((12:Int) < (l.length:Int))=true:=decide_eq_true (by omega)
    go_enter Tryz.func4,Tryz.ntmps4
    go_wp2_with fail
    refine (upM_any _ HL0.out).mono ?_
    rintro e w1 ⟨rfl,hb1⟩
    obtain ⟨x0,x1,x2⟩:=box_later hb1
    have HB1:=Lib.hid hb1
    clear hb1
    go_wp2_with fail
    refine (HF.out _ HB1.out).mono ?_
    rintro e w2 ⟨rfl,hb2⟩
    have hB2:=HB1.out.trans (hb2.mono HB1.out.size)
    clear x0 x1 x2
    obtain ⟨x0,x1,x2⟩:=box_later hB2
    have HB2:=Lib.hid hB2
    rw [HFF.out]
    clear hb2 hB2
    go_wp2_with fail
    go_ret
    exact ⟨rfl,below_boxed HB2.out⟩
end Go.Proofs.YtmhkpjcdkjnlnaaGreatDoor
