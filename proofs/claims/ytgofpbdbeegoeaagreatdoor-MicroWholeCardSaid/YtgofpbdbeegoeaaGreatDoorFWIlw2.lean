/- The walk of the law MicroWhole: true for any chart, session and event. -/
import Derived.Test.YtgofpbdbeegoeaaGreatDoorFWIlv
import Derived.Test.YtgofpbdbeegoeaaGreatDoorFWIsp
import Derived.Test.YtgofpbdbeegoeaaGreatDoorFWIsq
import Derived.Test.YtgofpbdbeegoeaaGreatDoorFWIsn
import Derived.Test.YtgofpbdbeegoeaaGreatDoorFWMwo
import Derived.Test.YtgofpbdbeegoeaaGreatDoorFWIcp
namespace Go.Proofs.YtgofpbdbeegoeaaGreatDoor
open Go.ChangeShapes Go.WideShapes Go.ChangeAt Go.RowKit
set_option linter.unusedVariables false

theorem conf_bset {n m:Nat} (hn:n < 4294967296) (h:∀ k,k < 32→bitN n k=true→k < m):bset (bitN n) m=n:=by
 refine Nat.eq_of_testBit_eq fun i=>?_
 rw [bset_test]
 have hb:n.testBit i=bitN n i:=by rw [Nat.testBit_eq_decide_div_mod_eq]; rfl
 rw [hb]
 rcases Nat.lt_or_ge i m with hi | hi
 · simp [hi]
 · have hf:bitN n i=false:=by
    cases hbi:bitN n i with
    | false=>rfl
    | true =>
     rcases Nat.lt_or_ge i 32 with h32 | h32
     · have:=h i h32 hbi
       omega
     · have h2:(2:Nat) ^ 32≤2 ^ i:=Nat.pow_le_pow_right (by decide) h32
       have : n < 2 ^ i := by have h3 : (2 : Nat) ^ 32 = 4294967296 := by decide
                              omega
       rw [← hb,Nat.testBit_lt_two_pow this] at hbi
       cases hbi
   rw [hf]
   simp
theorem gaF_len (C:Ch) (env:List Int) (ev:Int):∀ (l:List Int) (a:List Int × Nat),(l.foldl (gaStep C env ev) a).1.length≤a.1.length+l.length
 | [],a=>by simp
 | s :: r,a=>by
  rw [List.foldl_cons,List.length_cons]
  refine Nat.le_trans (gaF_len C env ev r _) ?_
  have:=putIn_len a.1 (frA env ev C.trs (wayL C.sts s) 0).1
  unfold gaStep
  simp only
  omega
theorem gaL_len {C:Ch} (ht:Tame C.sts) (env:List Int) (ev:Int) (n:Nat):(gaL C env ev n).1.length≤24:=by
 have h1:=gaF_len C env ev (lvL C.sts n) ([],0)
 have h2:=lvU_len C.sts n C.sts.length
 have h3:=ht.len
 unfold gaL
 unfold lvL at h1 ⊢
 simp only [List.length_nil] at h1
 omega
theorem kept_len (C:Ch) (env:List Int) (ev:Int) (n:Nat):(numsC (siL C (leftN C n) (gaL C env ev n).1)).length≤(gaL C env ev n).1.length:=by
 have:=si_len C (leftN C n) (gaL C env ev n).1 []
 unfold numsC siL
 rw [List.length_map]
 simpa using this
set_option maxHeartbeats 16000000 in
set_option maxRecDepth 100000 in
theorem ilaw2_any (vs vt vh ve vi:Value) (C:Ch) (n:Nat) (H:List Nat) (env ins:List Int) (st ev:Int) (w:World) (hL:Laid w) (hC:ChHas w vs vt C) (hS:ShortCh C) (hn:n < 4294967296) (hH:HistAt w vh H) (hE:NumsAt w ve env) (hEf:∀ x ∈ env,F64 x) (hI:ListAt w vi ins) :
 Calls Tryz.prog 3 #[.agg #[.int .i64 C.vars,vs,vt],.agg #[.int .u32 (n:Int),vh,ve,vi,.int .i64 st],.int .i64 ev] w fun e w'=>e=.returned (.bool true)∧Below w.heap.size w w':=by
 obtain ⟨sA,scap,tA,tcap,rfl,rfl⟩:=hC.slices
 obtain ⟨hA,hcap,rfl,-⟩:=RowsAt.slice hH
 obtain ⟨eA,ecap,rfl,-⟩:=RowsAt.slice (rows_of_nums hE)
 obtain ⟨iA,icap,rfl,-⟩:=RowsAt.slice hI
 have hb0:Below w.heap.size w ((w.alloc (chBox C.vars (.slice sA C.sts.length scap) (.slice tA C.trs.length tcap))).alloc (.cells #[.int .u32 (n:Int),.slice hA H.length hcap,.slice eA env.length ecap,.slice iA ins.length icap,.int .i64 st] 31)):=(below_box w _).alloc (by simp) _
 have HB0:=Lib.hid hb0
 have HXC:=Lib.hid ((Blk.new w 25 #[.int .i64 C.vars,.slice sA C.sts.length scap,.slice tA C.trs.length tcap]).alloc (.cells #[.int .u32 (n:Int),.slice hA H.length hcap,.slice eA env.length ecap,.slice iA ins.length icap,.int .i64 st] 31))
 have HXR:=Lib.hid (Blk.new_at (w.alloc (chBox C.vars (.slice sA C.sts.length scap) (.slice tA C.trs.length tcap))) 31 #[.int .u32 (n:Int),.slice hA H.length hcap,.slice eA env.length ecap,.slice iA ins.length icap,.int .i64 st] (w.heap.size+1) (by simp))
 have HL:=Lib.hid (fun (W:World) (h:Below w.heap.size w W)=>hL.after h)
 have HC:=Lib.hid (fun (W:World) (h:Below w.heap.size w W)=>hC.below h)
 have HHI:=Lib.hid (fun (W:World) (h:Below w.heap.size w W)=>hH.below h)
 have HEN:=Lib.hid (fun (W:World) (h:Below w.heap.size w W)=>hE.below h)
 have HIN:=Lib.hid (fun (W:World) (h:Below w.heap.size w W)=>hI.below h)
 have HSM:=Lib.hid (fun (W:World) (h:Below w.heap.size w W)=>small12_any _ _ _ _ _ C (n:Int) H env ins st W (hC.below h) hS (hH.below h) (hE.below h) (hI.below h))
 have HCH:=Lib.hid (fun (W:World) (hF:fewB C=true) (h:Below w.heap.size w W)=>new_any _ _ C W (hL.after h) (hC.below h) hF)
 have HLT:=Lib.hid hH.lt
 have HEF:=Lib.hid hEf
 have HNN:=Lib.hid hn
 have hnn:=neq_nil_nil
 have hnc:=fun p W=>neq_code_any p W
 have hns:=fun p W=>neq_spot_any p W
 clear hL hC hS hH hE hI hb0 hEf hn
 go_enter Tryz.func3,Tryz.ntmps3
 go_wp2_with fail
 generalize (w.alloc (chBox C.vars (.slice sA C.sts.length scap) (.slice tA C.trs.length tcap))).alloc (.cells #[.int .u32 (n:Int),.slice hA H.length hcap,.slice eA env.length ecap,.slice iA ins.length icap,.int .i64 st] 31)=w0 at *
 have hs0:w.heap.size≤w0.heap.size:=HB0.out.size
 have HFC:=Lib.hid (fun (W:World) (h:Below w0.heap.size w0 W)=>(HXC.out.below h HXC.out.lt).facts3.1)
 have HFR:=Lib.hid (fun (W:World) (h:Below w0.heap.size w0 W)=>(blk5_facts (HXR.out.below h HXR.out.lt)).1)
 have HBB:=Lib.hid (fun (W:World) (h:Below w0.heap.size w0 W)=>HB0.out.trans (h.mono hs0))
 refine (upI_any _ (HL.out _ HB0.out)).mono ?_
 rintro e w1 ⟨rfl,hb1⟩
 have HB1:=Lib.hid hb1
 obtain ⟨x0,x1,x2⟩:=HFC.out w1 hb1
 obtain ⟨r0,r1,r2,r3,r4⟩:=HFR.out w1 hb1
 clear hb1
 go_wp2_with fail
 refine (HSM.out _ (HBB.out w1 HB1.out)).mono ?_
 rintro e w2 ⟨rfl,hb2⟩
 have HB2:=Lib.hid (HB1.out.trans (hb2.mono HB1.out.size))
 clear hb2 x0 x1 x2 r0 r1 r2 r3 r4
 obtain ⟨x0,x1,x2⟩:=HFC.out w2 HB2.out
 obtain ⟨r0,r1,r2,r3,r4⟩:=HFR.out w2 HB2.out
 cases hsm:smB C H.length env.length ins.length with
 | false =>
  clear hsm
  go_wp2_with fail
  go_ret
  exact ⟨rfl,HBB.out _ HB2.out⟩
 | true =>
  unfold smB at hsm
  simp only [Bool.and_eq_true,decide_eq_true_eq] at hsm
  obtain ⟨hfew,hhl,hel,hil⟩:=hsm
  have HFF:=Lib.hid hfew
  clear hfew
  by_cases hok:chk hasTB C=.ok
  · have HOK:=Lib.hid hok
    have hta:=tame_of hok
    have HTA:=Lib.hid hta
    have HRO:=Lib.hid (rooted_of hok)
    have hno:=fun t W=>nilT_no t W
    have HWF:=Lib.hid (fun (W:World) (h:Below w.heap.size w W)=>rwhole_if C.vars _ _ C n W (HC.out W h) hta HNN.out)
    have HSO:=Lib.hid (fun (W:World) (h:Below w.heap.size w W) (v:Value) (G:List Nat) (hG:HistAt W v G) (hGl:G.length≤1000)=>sound_any C.vars _ _ v C G W (HC.out W h) hG hta hGl)
    clear hok hta
    go_wp2_with fail
    refine (HCH.out _ HFF.out (HBB.out w2 HB2.out)).mono ?_
    intro e w3 hp
    obtain ⟨hb3,t,rfl,ht,hT⟩:=npost_yes hp HOK.out
    have HB3:=Lib.hid (HB2.out.trans (hb3.mono HB2.out.size))
    have HT3:=Lib.hid hT
    clear hb3 hp hT ht x0 x1 x2 r0 r1 r2 r3 r4
    obtain ⟨x0,x1,x2⟩:=HFC.out w3 HB3.out
    obtain ⟨r0,r1,r2,r3,r4⟩:=HFR.out w3 HB3.out
    go_wp2_with fail
    refine (HSO.out w3 (HBB.out _ HB3.out) _ H (HHI.out w3 (HBB.out _ HB3.out)) (by omega)).mono ?_
    rintro e w4 ⟨hb4,bs,rfl,hbs⟩
    have HB4:=Lib.hid (HB3.out.trans (hb4.mono HB3.out.size))
    have HT4:=Lib.hid (HT3.out.below hb4)
    have HBS:=Lib.hid hbs
    clear hb4 x0 x1 x2 r0 r1 r2 r3 r4 hbs HT3
    obtain ⟨x0,x1,x2⟩:=HFC.out w4 HB4.out
    obtain ⟨r0,r1,r2,r3,r4⟩:=HFR.out w4 HB4.out
    go_wp2_with fail
    refine (HWF.out w4 (HBB.out _ HB4.out)).mono ?_
    rintro e w5 ⟨hb5,bw,rfl,hbw⟩
    have HB5:=Lib.hid (HB4.out.trans (hb5.mono HB4.out.size))
    have HT5:=Lib.hid (HT4.out.below hb5)
    have HBW:=Lib.hid hbw
    clear hb5 x0 x1 x2 r0 r1 r2 r3 r4 hbw HT4
    obtain ⟨x0,x1,x2⟩:=HFC.out w5 HB5.out
    obtain ⟨r0,r1,r2,r3,r4⟩:=HFR.out w5 HB5.out
    cases bs with
    | false =>
     go_wp2_with fail
     go_ret
     exact ⟨rfl,HBB.out _ HB5.out⟩
    | true =>
     cases bw with
     | false =>
      go_wp2_with fail
      go_ret
      exact ⟨rfl,HBB.out _ HB5.out⟩
     | true =>
      have HSND:=Lib.hid (HBS.out.1 rfl)
      have HWB:=Lib.hid (HBW.out rfl)
      have HNB:=Lib.hid (conf_bset HNN.out HWB.out.2)
      have HGA:=Lib.hid (gather_any t n _ ev C env w5 (HL.out _ (HBB.out _ HB5.out)) HT5.out HFF.out HTA.out HRO.out HNN.out (HEN.out _ (HBB.out _ HB5.out)) (by omega) HEF.out)
      go_wp2_with fail
      refine HGA.out.mono ?_
      rintro e w6 ⟨hb6,v6,rfl,ho6⟩
      have HB6:=Lib.hid (HB5.out.trans (hb6.mono HB5.out.size))
      have HT6:=Lib.hid (HT5.out.below hb6)
      have HSI:=Lib.hid (sift_any t n _ _ C w6 HT6.out HFF.out HTA.out HRO.out HNN.out (list_of_own ho6) (Nat.le_trans (gaL_len HTA.out env ev n) (by omega)))
      obtain ⟨gA,gcap,rfl⟩:=own_slice ho6
      have HKN:=Lib.hid (Nat.le_trans (kept_len C env ev n) (gaL_len HTA.out env ev n))
      generalize (gaL C env ev n).1.length=gl at *
      clear hb6 x0 x1 x2 r0 r1 r2 r3 r4 ho6 HGA HT5
      obtain ⟨x0,x1,x2⟩:=HFC.out w6 HB6.out
      obtain ⟨r0,r1,r2,r3,r4⟩:=HFR.out w6 HB6.out
      go_wp2_with fail
      refine HSI.out.mono ?_
      rintro e w7 ⟨hb7,v7,rfl,ho7⟩
      have HB7:=Lib.hid (HB6.out.trans (hb7.mono HB6.out.size))
      have HT7:=Lib.hid (HT6.out.below hb7)
      have HKL:=Lib.hid (list_of_own ho7)
      obtain ⟨kA,kcap,rfl⟩:=own_slice ho7
      clear hb7 x0 x1 x2 r0 r1 r2 r3 r4 ho7 HSI HT6
      go_wp2_with fail
      have HB8:=Lib.hid HB7.out.drew
      have HT8:=Lib.hid (HT7.out.below (Below.refl _ _).drew)
      have HK8:=Lib.hid (HKL.out.below (Below.refl _ _).drew)
      clear HB7 HT7 HKL
      obtain ⟨r0,r1,r2,r3,r4⟩:=HFR.out w7.drew HB8.out
      refine anyD_start (fun W=>W.cell? ⟨w.heap.size+1,0,none⟩=some (.int .u32 (n:Int))∧W.cell? ⟨w.heap.size+1,1,none⟩=some (.slice hA H.length hcap)∧W.cell? ⟨w.heap.size+1,2,none⟩=some (.slice eA env.length ecap)∧W.cell? ⟨w.heap.size+1,3,none⟩=some (.slice iA ins.length icap)∧W.cell? ⟨w.heap.size+1,4,none⟩=some (.int .i64 st)) (fun i=>[18].contains i) (by kernel_rfl) ?_
      try simp only [Act.put,sx]
      generalize w7.drew=w8 at *
      refine anyD_t 0 (.pointer (some ⟨w.heap.size+1,0,none⟩)) ?_
      try simp only [Act.put,sx]
      refine anyD_l 1 (.int .u32 (n:Int)) (⟨r0,r1,r2,r3,r4⟩) ?_
      try simp only [Act.put,sx]
      refine anyD_t 3 (.pointer (some ⟨w.heap.size+1,1,none⟩)) ?_
      try simp only [Act.put,sx]
      refine anyD_l 4 (.slice hA H.length hcap) (⟨r0,r1,r2,r3,r4⟩) ?_
      try simp only [Act.put,sx]
      refine anyD_t 7 (.pointer (some ⟨w.heap.size+1,2,none⟩)) ?_
      try simp only [Act.put,sx]
      refine anyD_l 8 (.slice eA env.length ecap) (⟨r0,r1,r2,r3,r4⟩) ?_
      try simp only [Act.put,sx]
      refine anyD_t 11 (.pointer (some ⟨w.heap.size+1,3,none⟩)) ?_
      try simp only [Act.put,sx]
      refine anyD_l 12 (.slice iA ins.length icap) (⟨r0,r1,r2,r3,r4⟩) ?_
      try simp only [Act.put,sx]
      refine anyD_t 14 (.pointer (some ⟨w.heap.size+1,4,none⟩)) ?_
      try simp only [Act.put,sx]
      refine anyD_l 15 (.int .i64 st) (⟨r0,r1,r2,r3,r4⟩) ?_
      try simp only [Act.put,sx]
      have HSC:=Lib.hid (fun (W:World) (h:Below w8.heap.size w8 W)=>HFR.out W (HB8.out.trans (h.mono HB8.out.size)))
      have hxH:(H.flatMap u32Cells).length=H.length:=by rw [List.length_flatMap]; show (List.map (fun _=>1) H).sum=H.length; rw [List.map_const',List.sum_replicate_nat,Nat.mul_one]
      have hxE:(intVals env).length=env.length:=List.length_map _
      have hxI:(intVals ins).length=ins.length:=List.length_map _
      have HXH:=Lib.hid hxH
      have HXE:=Lib.hid hxE
      have HXI:=Lib.hid hxI
      have h8:=HBB.out w8 HB8.out
      have rH:RowIs w8 1 (.slice hA H.length hcap) (H.flatMap u32Cells).length (H.flatMap u32Cells):=by rw [hxH]; exact rowIs_hist (HHI.out w8 h8)
      have rE:RowIs w8 1 (.slice eA env.length ecap) (intVals env).length (intVals env):=by rw [hxE]; exact rowIs_ints (rows_of_nums (HEN.out w8 h8))
      have rI:RowIs w8 1 (.slice iA ins.length icap) (intVals ins).length (intVals ins):=by rw [hxI]; exact rowIs_ints (HIN.out w8 h8)
      refine copy_region ⟨⟨_,rfl,rfl,rfl,rfl⟩,⟨_,rfl,rfl,rfl,rfl⟩,⟨_,rfl,rfl,rfl,rfl⟩,⟨_,rfl,rfl,rfl,rfl⟩,⟨_,rfl,rfl,rfl,rfl⟩,⟨_,rfl,rfl,rfl,rfl⟩,⟨_,rfl,rfl,rfl,rfl⟩,⟨_,rfl,rfl,rfl,rfl⟩,⟨_,rfl,rfl,rfl,rfl⟩,of_decide_eq_true (p:=RdF _ _) (by kernel_rfl)⟩ (Nat.le_of_ble_eq_true rfl) rfl rfl rfl rfl rfl rH rE rI (by rw [hxH]; omega) (by rw [hxE]; omega) (by rw [hxI]; omega) (fun W h=>HSC.out W h) rfl ?_
      clear rH rE rI h8 r0 r1 r2 r3 r4 hxH hxE hxI
      intro v2 v6 v10 A5 A9 A13 c5 c9 c13 p W hbW oH oE oI hBk hp
      rw [HXH.out] at oH hBk ⊢
      rw [HXE.out] at oE hBk ⊢
      rw [HXI.out] at oI hBk ⊢
      have HBK:=Lib.hid hBk
      have HOH:Hid (HistAt W (.slice A5 H.length c5) H):=Lib.hid (OwnHist.hist (B:=w8.heap.size) ⟨RowAt.of_own (cells:=u32Cells) (n:=1) (fun _=>rfl) oH,HLT.out⟩)
      have HOE:Hid (NumsAt W (.slice A9 env.length c9) env):=Lib.hid (OwnEnv.nums (env_of_own oE rfl))
      have HOI:Hid (ListAt W (.slice A13 ins.length c13) ins):=Lib.hid (OwnInts.of_own oI (Nat.le_refl _)).list
      have HBW:=Lib.hid (HB8.out.trans (hbW.mono HB8.out.size))
      have HTW:=Lib.hid (HT8.out.below hbW)
      have HKW:=Lib.hid (HK8.out.below hbW)
      have HPW:Hid (w.heap.size≤p):=Lib.hid (by have:=HB8.out.size; have:=hs0; omega)
      clear oH oE oI hbW hBk hp HT8 HK8 HB8 HSC
      have HST:=Lib.hid (mstep_any t C W (HL.out W (HBB.out W HBW.out)) HTW.out HOK.out HFF.out (bitN n) _ _ _ _ H env ins (numsC (siL C (leftN C n) (gaL C env ev n).1)) st HOH.out (by omega) HOE.out (by omega) HEF.out HOI.out (by omega) HKW.out (Nat.le_trans HKN.out (by omega)) (fun i hi=>by
       obtain ⟨x,hx,rfl⟩:=List.mem_map.1 hi
       exact ((siL_apt C (leftN C n) (gaL C env ev n).1).2 x hx).2.2))
      have HSW:=Lib.hid (stp_whole HOK.out HNB.out HWB.out.1 HLT.out HSND.out env ev (l:=numsC (siL C (leftN C n) (gaL C env ev n).1)) rfl env ins st)
      rw [HNB.out] at HST
      obtain ⟨Y,hY⟩:∃ Y,stpS C (numsC (siL C (leftN C n) (gaL C env ev n).1)) ⟨bitN n,padH C.sts.length H,env,ins,st,[]⟩=Y:=⟨_,rfl⟩
      rw [hY] at HST HSW
      have HYL:Hid (Y.hist.length≤1000):=Lib.hid (by rw [← hY,stpS_hist,recU_len,padH_len]; have:=HTA.out.len; omega)
      clear hY
      unfold actF
      simp only [Act.put,sx]
      obtain ⟨p0,p1,p2,p3,p4⟩:=(blk5_facts HBK.out).1
      go_wp2_with fail
      refine HST.out.mono ?_
      rintro e w9 ⟨hb9,v9,vo9,rfl,vh9,ve9,vi9,rfl,hr9⟩
      have HB9:=Lib.hid (HBW.out.trans (hb9.mono HBW.out.size))
      have HOH9:=Lib.hid (HOH.out.below hb9)
      have HOE9:=Lib.hid (HOE.out.below hb9)
      have HOI9:=Lib.hid (HOI.out.below hb9) 
      have HYH9:=Lib.hid hr9.hist.hist
      obtain ⟨hA9,hcap9,rfl⟩:=hr9.hist.slice
      obtain ⟨eA9,ecap9,rfl⟩:=OwnEnv.slice hr9.env
      obtain ⟨iA9,icap9,rfl⟩:=own_slice hr9.ins
      obtain ⟨oA9,ocap9,rfl,-⟩:=OwnOuts.outs hr9.out
      have HBK9:=Lib.hid ((HBK.out.below hb9 HBK.out.lt).alloc (.cells #[.int .u32 ((bset Y.a C.sts.length:Nat):Int),.slice hA9 Y.hist.length hcap9,.slice eA9 Y.env.length ecap9,.slice iA9 Y.ins.length icap9,.int .i64 Y.st] 31))
      clear hb9 hr9 HST HBK HOH HOE HOI HBW p0 p1 p2 p3 p4 HTW HKW
      have HX9:=Lib.hid (Blk.new w9 31 #[.int .u32 ((bset Y.a C.sts.length:Nat):Int),.slice hA9 Y.hist.length hcap9,.slice eA9 Y.env.length ecap9,.slice iA9 Y.ins.length icap9,.int .i64 Y.st])
      have hbx:=below_box w9 (.cells #[.int .u32 ((bset Y.a C.sts.length:Nat):Int),.slice hA9 Y.hist.length hcap9,.slice eA9 Y.env.length ecap9,.slice iA9 Y.ins.length icap9,.int .i64 Y.st] 31)
      have HB10:=Lib.hid (HB9.out.trans (hbx.mono HB9.out.size))
      have HOH10:=Lib.hid (HOH9.out.below hbx)
      have HOE10:=Lib.hid (HOE9.out.below hbx)
      have HOI10:=Lib.hid (HOI9.out.below hbx)
      have HYH10:=Lib.hid (HYH9.out.below hbx)
      clear hbx HB9 HOH9 HOE9 HOI9 HYH9
      obtain ⟨⟨p0,p1,p2,p3,p4⟩,-⟩:=blk5_facts HBK9.out
      obtain ⟨r0,r1,r2,r3,r4⟩:=HFR.out _ HB10.out
      go_wp2_with fail
      refine (same12_any _ _ C.sts.length ⟨bitN n,H,env,ins,st,[]⟩ _ ⟨_,_,_,by rw [HNB.out],HOH10.out,HOE10.out,HOI10.out⟩ ⟨_,_,_,by rw [HNB.out],HHI.out _ (HBB.out _ HB10.out),HEN.out _ (HBB.out _ HB10.out),HIN.out _ (HBB.out _ HB10.out)⟩ (by show H.length≤1000; omega) (by show env.length≤1000; omega) (by show ins.length≤1000000; omega)).mono ?_
      rintro e w11 ⟨rfl,hb11⟩
      have HB11:=Lib.hid (HB10.out.trans (hb11.mono HB10.out.size))
      have HX11:=Lib.hid (HX9.out.below hb11 HX9.out.lt)
      have HYH11:=Lib.hid (HYH10.out.below hb11)
      clear hb11 HB10 HX9 HYH10 HOH10 HOE10 HOI10 HBK9 p0 p1 p2 p3 p4 r0 r1 r2 r3 r4
      obtain ⟨x0,x1,x2⟩:=HFC.out w11 HB11.out
      obtain ⟨⟨p0,p1,p2,p3,p4⟩,-⟩:=blk5_facts HX11.out
      go_wp2_with fail
      refine (rwhole_any C.vars _ _ C Y.a w11 (HC.out _ (HBB.out _ HB11.out)) HTA.out HSW.out.1).mono ?_
      rintro e w12 ⟨rfl,hb12⟩
      have HB12:=Lib.hid (HB11.out.trans (hb12.mono HB11.out.size))
      have HX12:=Lib.hid (HX11.out.below hb12 HX11.out.lt)
      have HYH12:=Lib.hid (HYH11.out.below hb12)
      clear hb12 HB11 HX11 HYH11 x0 x1 x2 p0 p1 p2 p3 p4
      obtain ⟨x0,x1,x2⟩:=HFC.out w12 HB12.out
      obtain ⟨⟨p0,p1,p2,p3,p4⟩,-⟩:=blk5_facts HX12.out
      go_wp2_with fail
      refine (HSO.out w12 (HBB.out _ HB12.out) _ Y.hist HYH12.out HYL.out).mono ?_
      rintro e w13 ⟨hb13,bs,rfl,hbs⟩
      obtain rfl:bs=true:=hbs.2 HSW.out.2
      have HB13:=Lib.hid (HB12.out.trans (hb13.mono HB12.out.size))
      clear hb13 hbs HB12 HX12 HYH12 x0 x1 x2 p0 p1 p2 p3 p4
      go_wp2_with fail
      go_ret
      exact ⟨rfl,HBB.out _ HB13.out⟩
  · have HOK:=Lib.hid hok
    clear hok
    go_wp2_with fail
    refine (HCH.out _ HFF.out (HBB.out w2 HB2.out)).mono ?_
    intro e w3 hp
    obtain ⟨hb3,hv⟩:=npost_no hp HOK.out
    have HB3:=Lib.hid (HB2.out.trans (hb3.mono HB2.out.size))
    clear hb3 hp x0 x1 x2 r0 r1 r2 r3 r4
    rcases hv with ⟨p,rfl⟩ | ⟨p,rfl⟩
    · go_wp2_with fail
      go_ret
      exact ⟨rfl,HBB.out _ HB3.out⟩
    · go_wp2_with fail
      go_ret
      exact ⟨rfl,HBB.out _ HB3.out⟩
end Go.Proofs.YtgofpbdbeegoeaaGreatDoor
