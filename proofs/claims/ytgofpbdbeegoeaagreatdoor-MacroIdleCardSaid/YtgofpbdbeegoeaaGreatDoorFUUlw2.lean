/- The walk of the law MacroIdle: true for any chart, events and event. -/
import Derived.Test.YtgofpbdbeegoeaaGreatDoorFUUbx
namespace Go.Proofs.YtgofpbdbeegoeaaGreatDoor
open Go.ChangeShapes Go.WideShapes Go.ChangeAt Go.RowKit
set_option linter.unusedVariables false

set_option maxHeartbeats 8000000 in
set_option maxRecDepth 100000 in
theorem ulaw2_any (vs vt vl:Value) (C:Ch) (l:List Int) (ev:Int) (w:World) (hL:Laid w) (hC:ChHas w vs vt C) (hS:ShortCh C) (hv:ListAt w vl l) :
 Calls Tryz.prog 6 #[.agg #[.int .i64 C.vars,vs,vt],vl,.int .i64 ev] w fun e w'=>e=.returned (.bool true)∧Below w.heap.size w w':=by
 obtain ⟨sA,scap,tA,tcap,rfl,rfl⟩:=hC.slices
 obtain ⟨lA,lcap,rfl,hlcap⟩:=RowsAt.slice hv
 have HL:=Lib.hid hL
 have HL0:=Lib.hid (hL.after (below_box w (chBox C.vars (.slice sA C.sts.length scap) (.slice tA C.trs.length tcap))))
 have HF:=Lib.hid (fun (W:World) (h:Below (w.alloc (chBox C.vars (.slice sA C.sts.length scap) (.slice tA C.trs.length tcap))).heap.size (w.alloc (chBox C.vars (.slice sA C.sts.length scap) (.slice tA C.trs.length tcap))) W)=>few_any C.vars (.slice sA C.sts.length scap) (.slice tA C.trs.length tcap) C W (hC.below (below_boxed h)) hS)
 have HC:=Lib.hid hC
 have HV:=Lib.hid hv
 have HCH:=Lib.hid (fun (W:World) (hF:fewB C=true) (h:Below (w.alloc (chBox C.vars (.slice sA C.sts.length scap) (.slice tA C.trs.length tcap))).heap.size (w.alloc (chBox C.vars (.slice sA C.sts.length scap) (.slice tA C.trs.length tcap))) W)=>new_any (.slice sA C.sts.length scap) (.slice tA C.trs.length tcap) C W (hL.after (below_boxed h)) (hC.below (below_boxed h)) hF)
 have hnn:=neq_nil_nil
 have hnc:=fun p W=>neq_code_any p W
 have hns:=fun p W=>neq_spot_any p W
 clear hL hC hS hv hlcap
 cases hf:fewB C with
 | false =>
  have HFF:=Lib.hid hf
  clear hf
  go_enter Tryz.func6,Tryz.ntmps6
  go_wp2_with fail
  refine (upM_any _ HL0.out).mono ?_
  rintro e w1 ⟨rfl,hb1⟩
  obtain ⟨x0,x1,x2⟩:=box_later hb1
  have HB1:=Lib.hid hb1
  clear hb1
  go_wp2_with fail
  refine (HF.out _ HB1.out).mono ?_
  rintro e w2 ⟨rfl,hb2⟩
  have hB2:=HB1.out.trans (hb2.mono HB1.out.size)
  clear x0 x1 x2
  obtain ⟨x0,x1,x2⟩:=box_later hB2
  have HB2:=Lib.hid hB2
  rw [HFF.out]
  clear hb2 hB2
  go_wp2_with fail
  go_ret
  exact ⟨rfl,below_boxed HB2.out⟩
 | true =>
  have HFF:=Lib.hid hf
  clear hf
  by_cases h12:l.length≤12
  · have HCK:=Lib.hid (fun (W:World) h=>HCH.out W HFF.out h)
    have HTL:Hid (C.trs.length≤80):=Lib.hid (by have:=(few_parts HFF.out).2.1; omega)
    have h12b:decide ((12:Int) < (l.length:Int))=false:=decide_eq_false (by omega)
    go_enter Tryz.func6,Tryz.ntmps6
    go_wp2_with fail
    refine (upM_any _ HL0.out).mono ?_
    rintro e w1 ⟨rfl,hb1⟩
    obtain ⟨x0,x1,x2⟩:=box_later hb1
    have HB1:=Lib.hid hb1
    clear hb1
    go_wp2_with fail
    refine (HF.out _ HB1.out).mono ?_
    rintro e w2 ⟨rfl,hb2⟩
    have hB2:=HB1.out.trans (hb2.mono HB1.out.size)
    clear x0 x1 x2
    obtain ⟨x0,x1,x2⟩:=box_later hB2
    have HB2:=Lib.hid hB2
    rw [HFF.out]
    clear hb2 hB2
    have HB2C:=Lib.hid (fun (W:World) (hb:Below (w.alloc (chBox C.vars (.slice sA C.sts.length scap) (.slice tA C.trs.length tcap))).heap.size (w.alloc (chBox C.vars (.slice sA C.sts.length scap) (.slice tA C.trs.length tcap))) W)=>HC.out.below (below_boxed hb))
    go_wp2_with fail
    go_loopw [9] (fun i wr=>∃ (m:Nat),m≤C.trs.length∧i=.int .i64 (m:Int)∧Hid (Below (w.alloc (chBox C.vars (.slice sA C.sts.length scap) (.slice tA C.trs.length tcap))).heap.size (w.alloc (chBox C.vars (.slice sA C.sts.length scap) (.slice tA C.trs.length tcap))) wr)∧Hid (∀ k:Nat,k < m→(trAt C.trs (k:Int)).ev ≠ ev)) (fun i _=>C.trs.length - (intOf i).toNat)
    case atStart=>exact ⟨0,Nat.zero_le _,rfl,HB2,Lib.hid (fun k hk=>absurd hk (Nat.not_lt_zero k))⟩
    case round =>
     clear HB2 x0 x1 x2
     obtain ⟨m,hm,rfl,HB2,HNE⟩:=hrel
     obtain ⟨w2',rfl⟩:∃ w2':World,w2'=wr:=⟨_,rfl⟩
     obtain ⟨x0,x1,x2⟩:=box_later HB2.out
     have hm60:C.trs.length≤80:=HTL.out
     by_cases hlt:m < C.trs.length
     · obtain ⟨b,o,cap',wt,wa,hsl,_,hbl2,htc,hth⟩:=(HB2C.out w2' HB2.out).tra hlt
       have hsl':=hsl
       injection hsl' with e1 e2 e3
       subst e1
       obtain ⟨d0,d1,d2,d3,d4,d5⟩:=htc
       have HNM:=Lib.hid (fun (hne:(trAt C.trs (m:Int)).ev ≠ ev) (k:Nat) (hk:k < m+1)=>(by
        by_cases hkm:k=m
        · subst hkm; exact hne
        · exact HNE.out k (by omega):(trAt C.trs (k:Int)).ev ≠ ev))
       clear hsl e2 e3 hth hbl2 HNE d0 d3 d4 d5
       generalize trAt C.trs (m:Int)=tr at *
       obtain ⟨tev,htev⟩:∃ x,tr.ev=x:=⟨_,rfl⟩
       rw [htev] at d1 HNM
       obtain ⟨tg,htg⟩:∃ x,tr.guard=x:=⟨_,rfl⟩
       rw [htg] at d2
       by_cases he:tev=ev
       · subst he
         go_wp2_with fail
         go_ret
         exact ⟨rfl,below_boxed HB2.out⟩
       · have hne1:((tev:Int) == ev)=false:=beq_false_of_ne he
         have HNN:=Lib.hid (HNM.out he)
         by_cases h0:tev=0
         · subst h0
           go_wp2_with fail
           all_goals first
            | (go_ret; exact ⟨rfl,below_boxed HB2.out⟩)
            | exact ⟨⟨m+1,by omega,by go_num,HB2,HNN⟩,by simp [intOf]; omega⟩
         · have hne2:((tev:Int) == 0)=false:=beq_false_of_ne h0
           clear he h0
           go_wp2_with fail
           go_roundw
           case rel=>exact ⟨m+1,by omega,by go_num,HB2,HNN⟩
           case measure=>simp [intOf]; omega
     · obtain rfl:m=C.trs.length:=by omega
       have HEV:Hid (∀ x ∈ C.trs,x.ev ≠ ev):=Lib.hid (fun x hx=>by
        obtain ⟨i,hi⟩:=List.getElem?_of_mem hx
        have hl:=(List.getElem?_eq_some_iff.1 hi).1
        have h:=HNE.out i hl
        unfold trAt at h
        rw [Int.toNat_natCast,List.getD_eq_getElem?_getD,hi] at h
        exact h)
       clear HNE hlt hm
       by_cases hok:chk hasTB C=.ok
       · have HOK:=Lib.hid (chk_mk hok HFF.out)
         have hno:=fun t W=>nilT_no t W
         clear hok
         go_wp2_with fail
         refine (HCK.out _ HB2.out).mono ?_
         intro e w3 hp
         obtain ⟨hb3,t,rfl,ht,hT⟩:=npost_yes hp HOK.out.chk
         have HB3:=Lib.hid (HB2.out.trans (hb3.mono HB2.out.size))
         have HT3:=Lib.hid hT
         have HL3:=Lib.hid (HL.out.after (below_boxed HB3.out))
         have HV3:=Lib.hid (HV.out.below (below_boxed HB3.out))
         clear hb3 hp hT ht x0 x1 x2
         go_wp2_with fail
         refine (mstart_any HL3.out HT3.out HOK.out).mono ?_
         have HST:=Lib.hid (start_ok HOK.out)
         generalize startS C=Y at *
         rintro e w4 ⟨hb4,vh4,ve4,vi4,vo4,rfl,hm4⟩
         obtain ⟨hA,hcap,rfl⟩:=hm4.hist.slice
         obtain ⟨eA,ecap,rfl⟩:=OwnEnv.slice hm4.env
         obtain ⟨iA,icap,rfl⟩:=hm4.ins.slice
         obtain ⟨oA,ocap,rfl⟩:=own_slice hm4.out
         have HBX:=Lib.hid (below_box w4 (.cells #[.int .u32 ((bset Y.a C.sts.length:Nat):Int),.slice hA Y.hist.length hcap,.slice eA Y.env.length ecap,.slice iA Y.ins.length icap,.int .i64 Y.st] 31))
         have HK5:Hid (BxAt w3.heap.size (w4.alloc (.cells #[.int .u32 ((bset Y.a C.sts.length:Nat):Int),.slice hA Y.hist.length hcap,.slice eA Y.env.length ecap,.slice iA Y.ins.length icap,.int .i64 Y.st] 31)) w4.heap.size C (.slice hA Y.hist.length hcap) (.slice eA Y.env.length ecap) (.slice iA Y.ins.length icap) (.slice oA Y.out.length ocap) Y):=Lib.hid ⟨Blk.new w4 _ _,hm4.below HBX.out⟩
         have HR5:Hid (w3.heap.size≤w4.heap.size):=Lib.hid hb4.size
         have HB5:=Lib.hid (hb4.trans (HBX.out.mono hb4.size))
         clear hb4 hm4 HBX
         go_wp2_with fail
         generalize w4.alloc (.cells #[.int .u32 ((bset Y.a C.sts.length:Nat):Int),.slice hA Y.hist.length hcap,.slice eA Y.env.length ecap,.slice iA Y.ins.length icap,.int .i64 Y.st] 31)=w5 at *
         generalize w4.heap.size=r at *
         go_loopw [14] (fun i wr=>∃ (m:Nat) (Y:Se) (vh ve vi vo:Value),m≤l.length∧i=.int .i64 (m:Int)∧Hid (Below w3.heap.size w3 wr)∧Hid (BxAt w3.heap.size wr r C vh ve vi vo Y)∧Hid (Oka C Y)) (fun i _=>l.length - (intOf i).toNat)
         case atStart=>exact ⟨0,Y,_,_,_,_,Nat.zero_le _,rfl,HB5,HK5,HST⟩
         case round =>
          clear HB5 HK5 HST
          obtain ⟨m,Y,vh,ve,vi,vo,hm,rfl,HB,HK,HO⟩:=hrel
          obtain ⟨w6,rfl⟩:∃ w6:World,w6=wr:=⟨_,rfl⟩
          obtain ⟨hA,hcap,rfl⟩:=HK.out.rows.hist.slice
          obtain ⟨eA,ecap,rfl⟩:=OwnEnv.slice HK.out.rows.env
          obtain ⟨iA,icap,rfl⟩:=HK.out.rows.ins.slice
          obtain ⟨oA,ocap,rfl⟩:=own_slice HK.out.rows.out
          have HTK:=Lib.hid (fun (W:World) (x:Int) (hb:Below w3.heap.size w3 W) (hk:BxAt w3.heap.size W r C (.slice hA Y.hist.length hcap) (.slice eA Y.env.length ecap) (.slice iA Y.ins.length icap) (.slice oA Y.out.length ocap) Y)=>mtake_any (HL3.out.after hb) (HT3.out.below hb) HOK.out _ hk.run HO.out.1 x)
          by_cases hlt:m < l.length
          · obtain ⟨_,_,z1,_,z3⟩:=HV3.out
            injection z1 with e1 e2 e3
            subst e1
            obtain ⟨bb,oo,hAA,hbl,hc⟩:=z3 m _ (List.getElem?_eq_getElem hlt)
            subst hAA
            have HVC:Hid (∀ W,Below w3.heap.size w3 W→W.cell? ⟨bb,oo+m,none⟩=some (.int .i64 l[m])):=Lib.hid (fun W hb=>by
             have h:w3.cell? ⟨bb,oo+m,none⟩=some (.int .i64 l[m]):=by have:=hc; unfold IntAt at this; rwa [Nat.mul_one] at this
             exact (hb.cell hbl).trans h)
            generalize l[m]=ex at *
            clear z3 e2 e3 hc hbl
            have HOZ:=Lib.hid (HO.out.take HOK.out ex)
            have HTX:=Lib.hid (fun W hb hk=>HTK.out W ex hb hk)
            clear HTK
            generalize takeS C ex Y.hush=Z at *
            go_wp2_with fail
            refine anyD_start (fun W=>(W.cell? ⟨r,0,none⟩=some (.int .u32 ((bset Y.a C.sts.length:Nat):Int))∧W.cell? ⟨r,1,none⟩=some (.slice hA Y.hist.length hcap)∧W.cell? ⟨r,2,none⟩=some (.slice eA Y.env.length ecap)∧W.cell? ⟨r,3,none⟩=some (.slice iA Y.ins.length icap)∧W.cell? ⟨r,4,none⟩=some (.int .i64 Y.st))∧W.cell? ⟨bb,oo+m,none⟩=some (.int .i64 ex)) (fun i=>[10].contains i) (by kernel_rfl) ?_
            try simp only [Act.put,sx]
            have HB8:=Lib.hid HB.out.drew
            have HK8:=Lib.hid (HK.out.below (Below.refl _ _).drew)
            clear HB HK
            generalize w6.drew=w8 at *
            have HCS:=Lib.hid (fun (W:World) (hb:Below w8.heap.size w8 W)=>And.intro (blk5_facts (HK8.out.below hb).blk).1 (HVC.out W (HB8.out.trans (hb.mono HB8.out.size))))
            have hcs:=HCS.out w8 (Below.refl _ _)
            refine anyD_t 0 (.pointer (some ⟨t,0,none⟩)) ?_
            try simp only [Act.put,sx]
            refine anyD_l 1 (.agg #[.int .u32 ((bset Y.a C.sts.length:Nat):Int),.slice hA Y.hist.length hcap,.slice eA Y.env.length ecap,.slice iA Y.ins.length icap,.int .i64 Y.st]) (hcs) ?_
            try simp only [Act.put,sx]
            refine anyD_t 2 (.slice (some ⟨bb,oo,none⟩) l.length lcap) ?_
            try simp only [Act.put,sx]
            refine anyD_t 3 (.int .i64 (m:Int)) ?_
            try simp only [Act.put,sx]
            refine anyD_t 4 (.pointer (some ⟨bb,oo+m,none⟩)) ?_
            try simp only [Act.put,sx]
            refine anyD_l 5 (.int .i64 ex) (hcs) ?_
            try simp only [Act.put,sx]
            clear hcs
            refine anyD_one (i:=6) rfl rfl (by kernel_rfl) (fun K HK=>?_)
            go_simp
            refine (HTX.out w8 HB8.out HK8.out).mono ?_
            rintro e w9 ⟨hb9,uh,ue,ui,uo,rfl,hm9⟩
            obtain ⟨uA,ucap,rfl⟩:=hm9.hist.slice
            obtain ⟨fA,fcap,rfl⟩:=OwnEnv.slice hm9.env
            obtain ⟨jA,jcap,rfl⟩:=hm9.ins.slice
            obtain ⟨oB,obcap,rfl⟩:=own_slice hm9.out
            have hcs:=HCS.out w9 hb9
            have HB9:=Lib.hid (HB8.out.trans (hb9.mono HB8.out.size))
            have HK9:=Lib.hid (HK8.out.below hb9)
            have HM9:=Lib.hid (hm9.lower HB8.out.size)
            clear hm9 hb9 HTX HCS HB8 HK8
            go_simp
            refine HK.out _ _ (fun _ hS=>hcs) ?_
            clear HK K
            try simp only [Act.put,sx]
            refine anyD_t 7 (.tuple #[.agg #[.int .u32 ((bset Z.a C.sts.length:Nat):Int),.slice uA Z.hist.length ucap,.slice fA Z.env.length fcap,.slice jA Z.ins.length jcap,.int .i64 Z.st],.slice oB Z.out.length obcap]) ?_
            try simp only [Act.put,sx]
            refine anyD_t 8 (.agg #[.int .u32 ((bset Z.a C.sts.length:Nat):Int),.slice uA Z.hist.length ucap,.slice fA Z.env.length fcap,.slice jA Z.ins.length jcap,.int .i64 Z.st]) ?_
            try simp only [Act.put,sx]
            refine anyD_t 9 (.slice oB Z.out.length obcap) ?_
            try simp only [Act.put,sx]
            clear hcs
            obtain ⟨⟨c0,c1,c2,c3,c4⟩,f0,f1,f2,f3,f4⟩:=blk5_facts HK9.out.blk
            refine anyD_one (i:=10) rfl rfl (by kernel_rfl) (fun K HK=>?_)
            go_simp
            go_simp
            refine HK.out _ _ (fun h=>absurd h (by decide)) ?_
            clear HK K
            try simp only [Act.put,sx]
            refine anyD_done (by kernel_rfl) ?_
            have HKZ:=Lib.hid (HK9.out.put HM9.out)
            have HBZ:=Lib.hid (below_set5 HB9.out HR5.out (.int .u32 ((bset Z.a C.sts.length:Nat):Int)) (.slice uA Z.hist.length ucap) (.slice fA Z.env.length fcap) (.slice jA Z.ins.length jcap) (.int .i64 Z.st))
            simp only [set5,Nat.zero_add] at HKZ HBZ
            clear HK9 HM9 HB9 c0 c1 c2 c3 c4 f0 f1 f2 f3 f4
            go_wp2_with fail
            go_roundw
            case rel=>exact ⟨m+1,Z,_,_,_,_,by omega,by go_num,HBZ,HKZ,HOZ⟩
            case measure=>simp [intOf]; omega
          · obtain rfl:m=l.length:=by omega
            have HTX:=Lib.hid (fun W hb hk=>HTK.out W ev hb hk)
            have hZ:takeS C ev Y.hush=Y.hush:=take_idle HEV.out (still_hush HO.out.2)
            rw [hZ] at HTX
            have HBD:Hid (Y.hist.length≤1000∧Y.env.length≤1000∧Y.ins.length≤1000000):=Lib.hid ⟨by rw [HO.out.1.hl]; have:=(tame_of HOK.out.chk).len; omega,by rw [HO.out.1.el]; have:=HOK.out.vars; omega,by have:=HO.out.1.big; omega⟩
            obtain ⟨⟨c0,c1,c2,c3,c4⟩,-⟩:=blk5_facts HK.out.blk
            clear hZ HTK
            go_wp2_with fail
            refine (HTX.out w6 HB.out HK.out).mono ?_
            rintro e w9 ⟨hb9,uh,ue,ui,uo,rfl,hm9⟩
            obtain ⟨uA,ucap,rfl⟩:=hm9.hist.slice
            obtain ⟨fA,fcap,rfl⟩:=OwnEnv.slice hm9.env
            obtain ⟨jA,jcap,rfl⟩:=hm9.ins.slice
            obtain ⟨oB,obcap,rfl⟩:=own_slice hm9.out
            have hx:=below_box w9 (.cells #[.int .u32 ((bset Y.hush.a C.sts.length:Nat):Int),.slice uA Y.hush.hist.length ucap,.slice fA Y.hush.env.length fcap,.slice jA Y.hush.ins.length jcap,.int .i64 Y.hush.st] 31)
            have HB9:=Lib.hid ((HB.out.trans (hb9.mono HB.out.size)).trans (hx.mono (HB.out.trans (hb9.mono HB.out.size)).size))
            have HK9:=Lib.hid ((HK.out.below hb9).below hx)
            have HM9:=Lib.hid (hm9.below hx)
            have HQ9:=Lib.hid (Blk.new w9 31 #[.int .u32 ((bset Y.hush.a C.sts.length:Nat):Int),.slice uA Y.hush.hist.length ucap,.slice fA Y.hush.env.length fcap,.slice jA Y.hush.ins.length jcap,.int .i64 Y.hush.st])
            have hol:Y.hush.out.length=0:=rfl
            rw [hol]
            clear hb9 hm9 hx HTX HB HK c0 c1 c2 c3 c4
            obtain ⟨⟨c0,c1,c2,c3,c4⟩,-⟩:=blk5_facts HK9.out.blk
            obtain ⟨⟨p0,p1,p2,p3,p4⟩,-⟩:=blk5_facts HQ9.out
            go_wp2_with fail
            refine (same12_any _ _ C.sts.length Y.hush _ (run_hush HK9.out.run) HM9.out.run HBD.out.1 HBD.out.2.1 HBD.out.2.2).mono ?_
            rintro e w10 ⟨rfl,hb10⟩
            have HB10:=Lib.hid (HB9.out.trans (hb10.mono HB9.out.size))
            clear hb10 c0 c1 c2 c3 c4 p0 p1 p2 p3 p4
            go_wp2_with fail
            go_ret
            exact ⟨rfl,below_boxed (HB3.out.trans (HB10.out.mono HB3.out.size))⟩
       · have HOK:=Lib.hid hok
         clear hok
         go_wp2_with fail
         refine (HCK.out _ HB2.out).mono ?_
         intro e w3 hp
         obtain ⟨hb3,hv⟩:=npost_no hp HOK.out
         have HB3:=Lib.hid (HB2.out.trans (hb3.mono HB2.out.size))
         clear hb3 hp x0 x1 x2
         rcases hv with ⟨p,rfl⟩ | ⟨p,rfl⟩
         · go_wp2_with fail
           go_ret
           exact ⟨rfl,below_boxed HB3.out⟩
         · go_wp2_with fail
           go_ret
           exact ⟨rfl,below_boxed HB3.out⟩
  · have h12b:decide ((12:Int) < (l.length:Int))=true:=decide_eq_true (by omega)
    go_enter Tryz.func6,Tryz.ntmps6
    go_wp2_with fail
    refine (upM_any _ HL0.out).mono ?_
    rintro e w1 ⟨rfl,hb1⟩
    obtain ⟨x0,x1,x2⟩:=box_later hb1
    have HB1:=Lib.hid hb1
    clear hb1
    go_wp2_with fail
    refine (HF.out _ HB1.out).mono ?_
    rintro e w2 ⟨rfl,hb2⟩
    have hB2:=HB1.out.trans (hb2.mono HB1.out.size)
    clear x0 x1 x2
    obtain ⟨x0,x1,x2⟩:=box_later hB2
    have HB2:=Lib.hid hB2
    rw [HFF.out]
    clear hb2 hB2
    go_wp2_with fail
    go_ret
    exact ⟨rfl,below_boxed HB2.out⟩
end Go.Proofs.YtgofpbdbeegoeaaGreatDoor
