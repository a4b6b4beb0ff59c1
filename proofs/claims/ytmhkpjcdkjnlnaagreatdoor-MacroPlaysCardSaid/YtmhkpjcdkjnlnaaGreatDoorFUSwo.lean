/- The contracts of micro's left, entered, thatAreThere. -/
import Derived.Test.YtmhkpjcdkjnlnaaGreatDoorFUIze
import Derived.Test.YtmhkpjcdkjnlnaaGreatDoorFUIfi
import Derived.Test.YtmhkpjcdkjnlnaaGreatDoorFUHsi
import Derived.Test.YtmhkpjcdkjnlnaaGreatDoorFUHpure
import Derived.Test.YtmhkpjcdkjnlnaaGreatDoorFUMsn
namespace Go.Proofs.YtmhkpjcdkjnlnaaGreatDoor
open Go.ChangeShapes Go.WideShapes Go.ChangeAt Go.RowKit
set_option linter.unusedVariables false

section
variable {w0:World} {M:Nat→Option Obj} {t g:Nat} {vs vt:Value} {C:Ch} {w:World} {vh ve vi vo:Value} {X:Se}
theorem bitN_zero':bitN 0=fun _=>false:=by
 funext k
 unfold bitN
 simp
theorem left_bits {C:Ch} (hl:C.sts.length≤24) (P:Nat→Bool) (i:Int):leftN C (bset P C.sts.length) i=bset (bitN (leftN C (bset P C.sts.length) i)) C.sts.length:=by
 unfold leftN
 split
 · have:bitN 0=fun _=>false:=bitN_zero'
   rw [this,bset_none]
 · have h1:bset (leftP C (bset P C.sts.length) i) 24=bset (leftP C (bset P C.sts.length) i) C.sts.length:=bset_more _ hl (fun k hk=>by
    unfold leftP bitN
    rw [Nat.div_eq_of_lt (Nat.lt_of_lt_of_le (bset_lt P _) (Nat.pow_le_pow_right (by decide) hk))]
    rfl)
   rw [h1]
   exact (bset_congr _ fun k hk=>by rw [bset_bitN k hk]).symm
theorem isTrN {R:List Tr} {m:Nat} (h:m < R.length):isTr R (m:Int)=true:=by unfold isTr; simp; omega
theorem leftQ_succ (C:Ch) (n:Nat) (l:List Int) (m k:Nat):leftQ C n l (m+1) k=(leftQ C n l m k || (l.contains (m:Int) && bitN (leftN C n (m:Int)) k)):=any_succ _ _
theorem entQ_succ (C:Ch) (H:List Nat) (l:List Int) (m k:Nat):entQ C H l (m+1) k=(entQ C H l m k || (decide ((trAt C.trs (m:Int)).tgts ≠ []) && (l.contains (m:Int) && (pSet C.sts H (rchL C (m:Int)) (trAt C.trs (m:Int)).tgts).a k))):=any_succ _ _
set_option maxHeartbeats 4000000 in
set_option maxRecDepth 100000 in
theorem left_any (hF:Fx w0 t vs vt C) (hS:SeAt w0 M t g vs vt C w vh ve vi vo X) {B:Nat} (vl:Value) (l:List Int) (hv:w.ownsRow B 3 1 vl l.length (intVals l)) (hll:l.length≤1000000) :
 Calls Tryz.prog 170 #[.pointer (some ⟨g,0,none⟩),vl] w fun e w'=>e=.returned (.int .u32 ((bset (leftQ C (bset X.a C.sts.length) l C.trs.length) C.sts.length:Nat):Int))∧Below w.heap.size w w':=by
 have hlen:=hF.tame.len
 have hta:=hF.tame
 have hro:=hF.rooted
 have htl:=(few_parts hF.few).2.1
 obtain ⟨sA,scap,tA,tcap,rfl,rfl⟩:=hF.has.slices
 obtain ⟨lA,lcap,rfl⟩:=own_slice hv
 have HS:=Lib.hid hS
 have HCN:=Lib.hid (fun (W:World) (h:Below w.heap.size w W) (x:Int)=>contains_row _ B l x W (own_below hv h) hll)
 have HLS:=Lib.hid (fun (W:World) (h:Below w.heap.size w W) (i:Int)=>lset_any t (bset X.a C.sts.length) i C W (hF.tree.below (hS.below.trans (h.mono hS.lt))) hF.few hta hro (bset_u32 _ (by omega)))
 have HBT:=Lib.hid (fun i=>left_bits (C:=C) hlen X.a i)
 have HSU:=Lib.hid (fun m k=>leftQ_succ C (bset X.a C.sts.length) l m k)
 have H0:Hid (bset (leftQ C (bset X.a C.sts.length) l 0) C.sts.length=0):=Lib.hid (bset_none _)
 obtain ⟨⟨x0,x1,x2,x3,x4⟩,-⟩:=hS.cells
 obtain ⟨N,hN⟩:∃ N,bset X.a C.sts.length=N:=⟨_,rfl⟩
 rw [hN] at HLS HBT HSU H0 x4 ⊢
 have HN:=Lib.hid hN
 generalize leftQ C N l=LQ at *
 clear hF hta hro hS hv hN
 go_enter Tryz.func170,Tryz.ntmps170
 go_wp2_with fail
 go_loopw [5,13] (fun v i wr=>∃ m:Nat,m≤C.trs.length∧i=.int .i64 (m:Int)∧v=.int .u32 ((bset (LQ m) C.sts.length:Nat):Int)∧Below w.heap.size w wr) (fun _ i _=>C.trs.length - (intOf i).toNat)
 case atStart=>exact ⟨0,Nat.zero_le _,rfl,by rw [H0.out]; rfl,Below.refl _ _⟩
 case round =>
  obtain ⟨m,hm,rfl,rfl,hb⟩:=hrel
  obtain ⟨wo,rfl⟩:∃ wo:World,wo=wr:=⟨_,rfl⟩
  clear x0 x1 x2 x3 x4
  have HB:=Lib.hid hb
  clear hb
  by_cases hlt:m < C.trs.length
  · have HC0:=Lib.hid (HCN.out wo HB.out (m:Int))
    cases hc:l.contains (m:Int) with
    | false =>
     rw [hc] at HC0
     have HU:Hid (bset (LQ (m+1)) C.sts.length=bset (LQ m) C.sts.length):=Lib.hid (bset_congr _ fun k _=>by rw [HSU.out,hc]; simp)
     clear hc
     go_wp2_with fail
     refine HC0.out.mono ?_
     rintro e w2 ⟨rfl,rfl⟩
     go_wp2_with fail
     go_roundw
     case rel=>exact ⟨m+1,by omega,by go_num,by rw [HU.out],HB.out⟩
     case measure=>simp [intOf]; omega
    | true =>
     rw [hc] at HC0
     have hor:=or_sets (LQ m) (bitN (leftN C N (m:Int))) C.sts.length (by omega)
     have HU:Hid (bset (LQ (m+1)) C.sts.length=bset (fun k=>LQ m k || bitN (leftN C N (m:Int)) k) C.sts.length):=Lib.hid (bset_congr _ fun k _=>by rw [HSU.out,hc]; simp)
     have HBM:=Lib.hid (HBT.out (m:Int))
     rw [← HBM.out] at hor
     have HOR:=Lib.hid hor
     have HLD:=Lib.hid (HLS.out wo.drew HB.out.drew (m:Int))
     have HSD:=Lib.hid ((HS.out.after HB.out).drew)
     obtain ⟨⟨y0,-,-,-,y4⟩,-⟩:=HSD.out.cells
     rw [HN.out] at y4
     generalize leftN C N (m:Int)=NL at *
     clear hc hor
     go_wp2_with fail
     refine HC0.out.mono ?_
     rintro e w2 ⟨rfl,rfl⟩
     go_wp2_with fail
     refine anyD_start (fun W=>W.cell? ⟨g,0,none⟩=some (.pointer (some ⟨t,0,none⟩))∧W.cell? ⟨g,4,none⟩=some (.int .u32 (N:Int))) (fun i=>[].contains i) (by kernel_rfl) ?_
     try simp only [Act.put,sx]
     have hd1:Below w.heap.size w wo.drew:=HB.out.drew
     generalize wo.drew=w3 at *
     refine anyD_t 0 (.int .u32 ((bset (LQ m) C.sts.length:Nat):Int)) ?_
     try simp only [Act.put,sx]
     refine anyD_t 1 (.pointer (some ⟨g,0,none⟩)) ?_
     try simp only [Act.put,sx]
     refine anyD_t 2 (.pointer (some ⟨g,0,none⟩)) ?_
     try simp only [Act.put,sx]
     refine anyD_t 3 (.pointer (some ⟨g,0,none⟩)) ?_
     try simp only [Act.put,sx]
     refine anyD_l 4 (.pointer (some ⟨t,0,none⟩)) (⟨y0,y4⟩) ?_
     try simp only [Act.put,sx]
     refine anyD_t 5 (.pointer (some ⟨g,0,none⟩)) ?_
     try simp only [Act.put,sx]
     refine anyD_t 6 (.pointer (some ⟨g,0,none⟩)) ?_
     try simp only [Act.put,sx]
     refine anyD_t 7 (.pointer (some ⟨g,4,none⟩)) ?_
     try simp only [Act.put,sx]
     refine anyD_t 8 (.pointer (some ⟨g,4,none⟩)) ?_
     try simp only [Act.put,sx]
     refine anyD_l 9 (.int .u32 (N:Int)) (⟨y0,y4⟩) ?_
     try simp only [Act.put,sx]
     refine anyD_t 10 (.int .i64 (m:Int)) ?_
     try simp only [Act.put,sx]
     refine anyD_one (i:=11) rfl rfl (by kernel_rfl) (fun K HK=>?_)
     go_simp
     refine HLD.out.mono ?_
     rintro e w4 ⟨rfl,hb4⟩
     have HB4:=Lib.hid (hd1.trans (hb4.mono hd1.size))
     have HS4:=Lib.hid (HSD.out.after hb4)
     obtain ⟨⟨z0,-,-,-,z4⟩,-⟩:=HS4.out.cells
     rw [HN.out] at z4
     clear hb4
     go_simp
     refine HK.out _ _ (fun _ hS=>⟨z0,z4⟩) ?_
     clear HK K
     try simp only [Act.put,sx]
     refine anyD_one (i:=12) rfl rfl (by kernel_rfl) (fun K HK=>?_)
     go_simp
     rw [HOR.out]
     refine HK.out _ _ (fun _ hS=>⟨z0,z4⟩) ?_
     clear HK K
     try simp only [Act.put,sx]
     refine anyD_one (i:=13) rfl rfl (by kernel_rfl) (fun K HK=>?_)
     go_simp
     refine HK.out _ _ (fun _ hS=>⟨z0,z4⟩) ?_
     clear HK K
     try simp only [Act.put,sx]
     refine anyD_done (by kernel_rfl) ?_
     go_wp2_with fail
     go_roundw
     case rel=>exact ⟨m+1,by omega,by go_num,by rw [HU.out],HB4.out⟩
     case measure=>simp [intOf]; omega
  · obtain rfl:m=C.trs.length:=by omega
    go_wp2_with fail
    go_ret
    exact ⟨rfl,HB.out⟩
set_option maxHeartbeats 8000000 in
set_option maxRecDepth 100000 in
theorem entered_any (hF:Fx w0 t vs vt C) (hS:SeAt w0 M t g vs vt C w vh ve vi vo X) (hHl:X.hist.length≤1000) {B:Nat} (vl:Value) (l:List Int) (hv:w.ownsRow B 3 1 vl l.length (intVals l)) (hll:l.length≤1000000) :
 Calls Tryz.prog 171 #[.pointer (some ⟨g,0,none⟩),vl] w fun e w'=>e=.returned (.int .u32 ((bset (entQ C X.hist l C.trs.length) C.sts.length:Nat):Int))∧Below w.heap.size w w':=by
 have hlen:=hF.tame.len
 have hta:=hF.tame
 have hro:=hF.rooted
 have htl:=(few_parts hF.few).2.1
 obtain ⟨sA,scap,tA,tcap,rfl,rfl⟩:=hF.has.slices
 obtain ⟨lA,lcap,rfl⟩:=own_slice hv
 have HS:=Lib.hid hS
 have HF:=Lib.hid hF
 have HCN:=Lib.hid (fun (W:World) (h:Below w.heap.size w W) (x:Int)=>contains_row _ B l x W (own_below hv h) hll)
 have HRE:=Lib.hid (fun (W:World) (h:Below w.heap.size w W) (i:Int)=>reach_any t i C W (hF.tree.below (hS.below.trans (h.mono hS.lt))) hF.few hta hro)
 have HBL:=Lib.hid (fun (W:World) (h:Below w.heap.size w W) (a:Int) (v:Value) (L:List Int) (hL:ListAt W v L) (hl:L.length≤1000)=>below_anyM hF (hS.after h) hHl a v L hL hl)
 have HSU:=Lib.hid (fun m k=>entQ_succ C X.hist l m k)
 have HTG:=Lib.hid (fun (m:Nat) (hm:m < C.trs.length)=>few_tgts hF.few (m:Int))
 have H0:Hid (bset (entQ C X.hist l 0) C.sts.length=0):=Lib.hid (bset_none _)
 obtain ⟨⟨x0,x1,x2,x3,x4⟩,-⟩:=hS.cells
 generalize entQ C X.hist l=LQ at *
 clear hF hta hro hS hv hHl
 go_enter Tryz.func171,Tryz.ntmps171
 go_wp2_with fail
 go_loopw [5,14] (fun v i wr=>∃ m:Nat,m≤C.trs.length∧i=.int .i64 (m:Int)∧v=.int .u32 ((bset (LQ m) C.sts.length:Nat):Int)∧Below w.heap.size w wr) (fun _ i _=>C.trs.length - (intOf i).toNat)
 case atStart=>exact ⟨0,Nat.zero_le _,rfl,by rw [H0.out]; rfl,Below.refl _ _⟩
 case round =>
  obtain ⟨m,hm,rfl,rfl,hb⟩:=hrel
  obtain ⟨wo,rfl⟩:∃ wo:World,wo=wr:=⟨_,rfl⟩
  clear x0 x1 x2 x3 x4
  have HB:=Lib.hid hb
  by_cases hlt:m < C.trs.length
  · obtain ⟨b,o,cap',wt,wa,hsl,_,hbl,htr,hth⟩:=HF.out.has.tra hlt
    injection hsl with e1 e2 e3
    subst e1
    have hbw:=HS.out.below.trans (hb.mono HS.out.lt)
    obtain ⟨c0,c1,c2,c3,c4,c5⟩:=htr.below hbw hbl
    have HTH:=Lib.hid (hth.below hbw)
    obtain ⟨tgA,tgcap,acA,accap,rfl,rfl⟩:=hth.slices
    have hsu:=fun k=>HSU.out m k
    have htg:=HTG.out m hlt
    have htro:trOf C.trs (m:Int)=trAt C.trs (m:Int):=by unfold trOf; rw [if_pos (isTrN hlt)]
    rw [htro] at htg
    obtain ⟨T,hT⟩:∃ T,trAt C.trs (m:Int)=T:=⟨_,rfl⟩
    rw [hT] at c0 c1 c2 c3 c4 c5 HTH hsu htg
    obtain ⟨src,ev,gu,tg,inn,ac⟩:=T
    simp only at c0 c1 c2 c3 c4 c5 HTH hsu htg
    have hg1:trOf C.trs (m:Int)=⟨src,ev,gu,tg,inn,ac⟩:=by rw [htro,hT]
    clear htr hth e2 e3 htro hT hbw
    have HBA:=Lib.hid (hb.alloc hb.size (.cells #[.int .i64 src,.int .i64 ev,.string gu,.slice tgA tg.length tgcap,.bool inn,.slice acA ac.length accap] 66))
    have HBX:=Lib.hid (Blk.new wo 66 #[.int .i64 src,.int .i64 ev,.string gu,.slice tgA tg.length tgcap,.bool inn,.slice acA ac.length accap])
    have HTL:=Lib.hid (HTH.out.1.below (below_box wo (.cells #[.int .i64 src,.int .i64 ev,.string gu,.slice tgA tg.length tgcap,.bool inn,.slice acA ac.length accap] 66)))
    clear hb
    by_cases htn:tg=[]
    · have HU:Hid (bset (LQ (m+1)) C.sts.length=bset (LQ m) C.sts.length):=Lib.hid (bset_congr _ fun k _=>by rw [hsu k,htn]; simp)
      subst htn
      clear hsu hg1
      go_wp2_with fail
      go_roundw
      case rel=>exact ⟨m+1,by omega,by go_num,by rw [HU.out],HBA.out⟩
      case measure=>simp [intOf]; omega
    · have hpos:0 < tg.length:=List.length_pos_iff.2 htn
      have HTN:=Lib.hid htn
      generalize hgl:tg.length=tl at *
      have HTG3:Hid (tg.length≤1000):=Lib.hid (by omega)
      clear htn htg hgl
      have htn:=HTN.out
      have HC0:=Lib.hid (HCN.out _ HBA.out (m:Int))
      cases hc:l.contains (m:Int) with
      | false =>
       rw [hc] at HC0
       have HU:Hid (bset (LQ (m+1)) C.sts.length=bset (LQ m) C.sts.length):=Lib.hid (bset_congr _ fun k _=>by rw [hsu k,hc]; simp)
       clear hc hsu hg1 htn
       go_wp2_with fail
       refine HC0.out.mono ?_
       rintro e w2 ⟨rfl,rfl⟩
       go_wp2_with fail
       go_roundw
       case rel=>exact ⟨m+1,by omega,by go_num,by rw [HU.out],HBA.out⟩
       case measure=>simp [intOf]; omega
      | true =>
       rw [hc] at HC0
       have hor:=or_sets (LQ m) (pSet C.sts X.hist (rchL C (m:Int)) tg).a C.sts.length (by omega)
       have HU:Hid (bset (LQ (m+1)) C.sts.length=bset (fun k=>LQ m k || (pSet C.sts X.hist (rchL C (m:Int)) tg).a k) C.sts.length):=Lib.hid (bset_congr _ fun k _=>by rw [hsu k,hc]; simp [htn])
       have HOR:=Lib.hid hor
       clear hor
       have HRD:=Lib.hid (HRE.out _ HBA.out.drew (m:Int))
       have HSD:=Lib.hid ((HS.out.after HBA.out).drew)
       clear htn hc hsu hg1
       have HBD:=Lib.hid HBA.out.drew
       have HXD:=Lib.hid HBX.out.drew
       have HTD:=Lib.hid (HTL.out.below (Below.refl _ _).drew)
       obtain ⟨⟨y0,-,-,-,-⟩,-⟩:=HSD.out.cells
       have y3:=HXD.out.cell 3
       go_wp2_with fail
       refine HC0.out.mono ?_
       rintro e w2 ⟨rfl,rfl⟩
       go_wp2_with fail
       refine anyD_start (fun W=>W.cell? ⟨g,0,none⟩=some (.pointer (some ⟨t,0,none⟩))∧W.cell? ⟨wo.heap.size,3,none⟩=some (.slice tgA tl tgcap)) (fun i=>[].contains i) (by kernel_rfl) ?_
       try simp only [Act.put,sx]
       generalize (wo.alloc (.cells #[.int .i64 src,.int .i64 ev,.string gu,.slice tgA tl tgcap,.bool inn,.slice acA ac.length accap] 66)).drew=w3 at *
       refine anyD_t 0 (.int .u32 ((bset (LQ m) C.sts.length:Nat):Int)) ?_
       try simp only [Act.put,sx]
       refine anyD_t 1 (.pointer (some ⟨g,0,none⟩)) ?_
       try simp only [Act.put,sx]
       refine anyD_t 2 (.pointer (some ⟨g,0,none⟩)) ?_
       try simp only [Act.put,sx]
       refine anyD_t 3 (.pointer (some ⟨g,0,none⟩)) ?_
       try simp only [Act.put,sx]
       refine anyD_t 4 (.pointer (some ⟨g,0,none⟩)) ?_
       try simp only [Act.put,sx]
       refine anyD_l 5 (.pointer (some ⟨t,0,none⟩)) (⟨y0,y3⟩) ?_
       try simp only [Act.put,sx]
       refine anyD_t 6 (.int .i64 (m:Int)) ?_
       try simp only [Act.put,sx]
       refine anyD_t 8 (.pointer (some ⟨wo.heap.size,3,none⟩)) ?_
       try simp only [Act.put,sx]
       refine anyD_l 9 (.slice tgA tl tgcap) (⟨y0,y3⟩) ?_
       try simp only [Act.put,sx]
       refine anyD_one (i:=7) rfl rfl (by kernel_rfl) (fun K HK=>?_)
       go_simp
       refine HRD.out.mono ?_
       rintro e w4 ⟨rfl,hb4⟩
       have HB4:=Lib.hid (HBD.out.trans (hb4.mono HBD.out.size))
       have HS4:=Lib.hid (HSD.out.after hb4)
       have HX4:=Lib.hid (HXD.out.below hb4 HXD.out.lt)
       have HBE:=Lib.hid (HBL.out w4 HB4.out (rchL C (m:Int)) (.slice tgA tl tgcap) tg (HTD.out.below hb4) HTG3.out)
       obtain ⟨⟨z0,-,-,-,-⟩,-⟩:=HS4.out.cells
       have z3:=HX4.out.cell 3
       clear hb4
       go_simp
       refine HK.out _ _ (fun _ hS=>⟨z0,z3⟩) ?_
       clear HK K
       try simp only [Act.put,sx]
       refine anyD_one (i:=10) rfl rfl (by kernel_rfl) (fun K HK=>?_)
       go_simp
       refine HBE.out.mono ?_
       rintro e w5 ⟨rfl,hb5⟩
       have HB5:=Lib.hid (HB4.out.trans (hb5.mono HB4.out.size))
       have HS5:=Lib.hid (HS4.out.after hb5)
       have HX5:=Lib.hid (HX4.out.below hb5 HX4.out.lt)
       obtain ⟨⟨q0,-,-,-,-⟩,-⟩:=HS5.out.cells
       have q3:=HX5.out.cell 3
       clear hb5
       go_simp
       refine HK.out _ _ (fun _ hS=>⟨q0,q3⟩) ?_
       clear HK K
       try simp only [Act.put,sx]
       refine anyD_one (i:=11) rfl rfl (by kernel_rfl) (fun K HK=>?_)
       go_simp
       rw [HOR.out]
       refine HK.out _ _ (fun _ hS=>⟨q0,q3⟩) ?_
       clear HK K
       try simp only [Act.put,sx]
       refine anyD_one (i:=12) rfl rfl (by kernel_rfl) (fun K HK=>?_)
       go_simp
       refine HK.out _ _ (fun _ hS=>⟨q0,q3⟩) ?_
       clear HK K
       try simp only [Act.put,sx]
       refine anyD_done (by kernel_rfl) ?_
       go_wp2_with fail
       go_roundw
       case rel=>exact ⟨m+1,by omega,by go_num,by rw [HU.out],HB5.out⟩
       case measure=>simp [intOf]; omega
  · obtain rfl:m=C.trs.length:=by omega
    clear hb
    go_wp2_with fail
    go_ret
    exact ⟨rfl,HB.out⟩
end

def GoodAt (S:List St) (H:List Nat) (s:Nat):Prop:=histAt H (s:Int) ≠ 0→s < S.length∧histB (stAt S (s:Int)).kind=true∧∀ x ∈ stD S H (s:Int),isSt S x=true∧histB (stAt S x).kind=false
theorem stD_set {S:List St} {H:List Nat} {s:Int} (h:histAt H s ≠ 0):stD S H s=membU (bitN (histAt H s)) 32:=by unfold stD; rw [if_pos h]
theorem membU_cut (S:List St) (P:Nat→Bool):∀ m:Nat,S.length≤m→(∀ x ∈ membU P m,isSt S x=true)→membU P m=memb S P
 | m,h,hx=>by
  by_cases he:m=S.length
  · rw [he]; rfl
  · obtain ⟨q,rfl⟩:∃ q,m=q+1:=⟨m - 1,by omega⟩
    rw [membU_succ] at hx ⊢
    have hq:¬ P q=true:=fun hP=>by
     have:=isSt_iff.1 (hx (q:Int) (by rw [if_pos hP]; simp))
     omega
    rw [if_neg hq,List.append_nil] at hx ⊢
    exact membU_cut S P q (by omega) hx
theorem good_std {S:List St} {H:List Nat} (hT:Tame S) (hG:∀ s,s < H.length→GoodAt S H s):GoodH S H∧∀ s,isSt S s=true→histB (stAt S s).kind=true→stD S H s=ofS S H s:=by
 have key:∀ s,isSt S s=true→histB (stAt S s).kind=true→stD S H s=ofS S H s∧∀ x ∈ ofS S H s,isSt S x=true∧histB (stAt S x).kind=false:=by
  intro s hs hh
  obtain ⟨k,rfl,hk⟩:=isSt_nat hs
  have ho:ofS S H (k:Int)=if histAt H (k:Int) ≠ 0 then memb S (bitN (histAt H (k:Int))) else (stAt S (k:Int)).ini:=by
   unfold ofS
   rw [if_neg (by rw [hs]; simp),if_neg (by rw [hh]; simp)]
  by_cases hz:histAt H (k:Int) ≠ 0
  · have hkl:k < H.length:=by
     rcases Nat.lt_or_ge k H.length with h | h
     · exact h
     · exact absurd (by unfold histAt; simp [List.getD,List.getElem?_eq_none h]) hz
    have hx:=(hG k hkl hz).2.2
    have hcut:=membU_cut S (bitN (histAt H (k:Int))) 32 (by have:=hT.len; omega) (fun x h=>(hx x (by rw [stD_set hz]; exact h)).1)
    have he:stD S H (k:Int)=ofS S H (k:Int):=by rw [stD_set hz,ho,if_pos hz,hcut]
    exact ⟨he,fun x h=>hx x (by rw [he]; exact h)⟩
  · have he:stD S H (k:Int)=ofS S H (k:Int):=by unfold stD; rw [if_neg hz,ho,if_neg hz]
    refine ⟨he,fun x h=>?_⟩
    obtain ⟨t,h1,h2,h3,_⟩:=hT.ini5 _ hs hh
    rw [ho,if_neg hz,h1] at h
    obtain rfl:=List.mem_singleton.1 h
    exact ⟨h2,h3⟩
 exact ⟨fun s hs hh x hx=>(key s hs hh).2 x hx,fun s hs hh=>(key s hs hh).1⟩

def OkX (S:List St) (s x:Int):Prop:=isSt S x=true∧histB (stAt S x).kind=false∧cIn S x (stAt S s).par=true∧((stAt S s).kind=5→(stAt S x).par=(stAt S s).par)∧((stAt S s).kind=6→(stAt S x).kind=1 ∨ (stAt S x).kind=4)
def GoodF (S:List St) (H:List Nat) (s:Nat):Prop:=histAt H (s:Int) ≠ 0→s < S.length∧histB (stAt S (s:Int)).kind=true∧∀ x ∈ stD S H (s:Int),OkX S (s:Int) x
theorem GoodF.weak {S:List St} {H:List Nat} {s:Nat} (h:GoodF S H s):GoodAt S H s:=fun h0=>⟨(h h0).1,(h h0).2.1,fun x hx=>⟨((h h0).2.2 x hx).1,((h h0).2.2 x hx).2.1⟩⟩

def cntK (A:Nat→Bool) (L:List Int):Nat:=(L.filter fun x=>hasS A x).length
theorem cntK_snoc (A:Nat→Bool) (L:List Int) (x:Int):cntK A (L ++ [x])=cntK A L+if hasS A x=true then 1 else 0:=by
 unfold cntK
 rw [List.filter_append,List.length_append]
 cases h:hasS A x <;> simp [h]
theorem cntK_le (A:Nat→Bool) (L:List Int):cntK A L≤L.length:=List.length_filter_le _ _
theorem kids_nodup (S:List St) (p:Int):(kids S p).Nodup:=by
 unfold kids kidsU
 refine List.Pairwise.map (R:=fun a b:Nat=>a ≠ b) _ (fun a b h h'=>h (by omega)) ?_
 exact List.Pairwise.filter _ List.nodup_range
theorem cntK_one {A:Nat→Bool} {k:Int}:∀ {L:List Int},L.Nodup→k ∈ L→hasS A k=true→(∀ k' ∈ L,hasS A k'=true→k'=k)→cntK A L=1
 | [],_,h,_,_=>by cases h
 | x :: L,hn,hk,hA,hu=>by
  have hn':=List.nodup_cons.1 hn
  by_cases hx:x=k
  · subst hx
    have hz:∀ y ∈ L,¬ hasS A y=true:=fun y hy hAy=>hn'.1 (by rw [← hu y (List.mem_cons_of_mem _ hy) hAy]; exact hy)
    unfold cntK
    rw [List.filter_cons,if_pos hA,List.filter_eq_nil_iff.2 hz]
    rfl
  · have hAx:¬ hasS A x=true:=fun h=>hx (hu x (List.mem_cons_self ..) h)
    have hkL:k ∈ L:=by rcases List.mem_cons.1 hk with h | h; exact absurd h.symm hx; exact h
    have ih:=cntK_one hn'.2 hkL hA fun k' hk' h=>hu k' (List.mem_cons_of_mem _ hk') h
    unfold cntK at ih ⊢
    rw [List.filter_cons,if_neg hAx]
    exact ih
theorem cntK_all {A:Nat→Bool} {L:List Int} (h:∀ k ∈ L,hasS A k=true):cntK A L=L.length:=by
 unfold cntK
 rw [List.filter_eq_self.2 h]
theorem has_set {S:List St} (A:Nat→Bool) (k:Nat) (hk:k < S.length):decide (bset A S.length / 2 ^ k % 2=1)=hasS A (k:Int):=by
 rw [bset_bit A _ k hk,hasS_nat]
 cases A k <;> simp
theorem has_none {S:List St} (A:Nat→Bool) (k:Nat) (hk:¬ k < S.length):decide (bset A S.length / 2 ^ k % 2=1)=false:=by
 rw [Nat.div_eq_of_lt (Nat.lt_of_lt_of_le (bset_lt A S.length) (Nat.pow_le_pow_right (by decide) (by omega)))]
 rfl
set_option maxHeartbeats 8000000 in
set_option maxRecDepth 100000 in
theorem rwhole_any (vr:Int) (vs vt:Value) (C:Ch) (A:Nat→Bool) (w:World) (hC:ChHas w vs vt C) (hta:Tame C.sts) (hW:WB C.sts A 0) :
 Calls Tryz.prog 14 #[.agg #[.int .i64 vr,vs,vt],.int .u32 ((bset A C.sts.length:Nat):Int)] w fun e w'=>e=.returned (.bool true)∧Below w.heap.size w w':=by
 have hlen:=hta.len
 have hpos:=hta.pos
 have HC:=Lib.hid hC
 have HTA:=Lib.hid hta
 have HW:=Lib.hid hW
 have hsm:=bset_u32 A (show C.sts.length≤31 by omega)
 have HHB:=Lib.hid (fun (k:Nat) (hk:k≤31) (W:World)=>hasBit_any (bset A C.sts.length) k hsm (by omega) W)
 have HHS:=Lib.hid (fun k hk=>has_set (S:=C.sts) A k hk)
 have HHN:=Lib.hid (fun k hk=>has_none (S:=C.sts) A k hk)
 have h00:hasS A ((0:Nat):Int)=true:=hW.1
 have HH0:=Lib.hid (HHB.out 0 (by omega))
 rw [HHS.out 0 hpos,h00] at HH0
 obtain ⟨b,o,scap,vi0,ve0,vx0,rfl,hscap,hbl,_,_⟩:=hC.st hpos
 generalize bset A C.sts.length=N at *
 clear hC hta hW h00
 go_enter Tryz.func14,Tryz.ntmps14
 go_wp2_with fail
 refine (HH0.out _).mono ?_
 rintro e w1 ⟨rfl,rfl⟩
 go_wp2_with fail
 go_loopw [5] (fun i wr=>∃ (k:Nat),k≤32∧i=.int .i64 (k:Int)∧Hid (Below (w.alloc (chBox vr (.slice (some ⟨b,o,none⟩) C.sts.length scap) vt)).heap.size (w.alloc (chBox vr (.slice (some ⟨b,o,none⟩) C.sts.length scap) vt)) wr)) (fun i _=>32 - (intOf i).toNat)
 case atStart=>exact ⟨0,Nat.zero_le _,rfl,Lib.hid (Below.refl _ _)⟩
 case round =>
  obtain ⟨k,hk,rfl,HB⟩:=hrel
  obtain ⟨wo,rfl⟩:∃ wo:World,wo=wr:=⟨_,rfl⟩
  obtain ⟨x0,x1,x2⟩:=box_later HB.out
  by_cases hlt:k < 32
  · by_cases hkn:k < C.sts.length
    · have HHK:=Lib.hid (HHB.out k (by omega) wo)
      rw [HHS.out k hkn] at HHK
      cases hAk:hasS A (k:Int) with
      | false =>
       rw [hAk] at HHK
       clear hAk
       go_wp2_with fail
       refine HHK.out.mono ?_
       rintro e w2 ⟨rfl,rfl⟩
       go_wp2_with fail
       go_roundw
       case rel=>exact ⟨k+1,by omega,by go_num,HB⟩
       case measure=>simp [intOf]; omega
      | true =>
       rw [hAk] at HHK
       have hs:=isSt_of hkn
       have hsub:Sub C.sts (k:Int) 0:=by
        by_cases hk0:k=0
        · left; omega
        · right; exact HTA.out.all _ hs (by omega)
       obtain ⟨g1,g2,g3,g4⟩:=HW.out.2 _ hs hAk hsub
       have hge:decide ((C.sts.length:Int)≤(k:Int))=false:=by simp; omega
       have HPA:=Lib.hid (past_any vr (.slice (some ⟨b,o,none⟩) C.sts.length scap) vt C k wo (HC.out.below (below_boxed HB.out)) (by omega) hkn)
       rw [g1] at HPA
       obtain ⟨vi,ve,vx,hst,_⟩:=HC.out.st' hkn
       have HSK:Hid (∀ W,Below w.heap.size w W→W.cell? ⟨b,o+k * 5,none⟩=some (.int .i64 (stAt C.sts (k:Int)).kind)∧W.cell? ⟨b,o+k * 5+1,none⟩=some (.int .i64 (stAt C.sts (k:Int)).par)):=Lib.hid (fun W hW=>⟨(hst.below hW hbl).1,(hst.below hW hbl).2.1⟩)
       have HKD:=Lib.hid (fun (W:World) (hW:Below w.heap.size w W)=>rkids_any vr (k:Int) (.slice (some ⟨b,o,none⟩) C.sts.length scap) vt C W (HC.out.below hW) (by omega))
       have HKN:=Lib.hid (kids_nodup C.sts (k:Int))
       have HKM:Hid (∀ x ∈ kids C.sts (k:Int),isSt C.sts x=true):=Lib.hid (fun x hx=>(kids_mem.1 hx).1)
       have hkl:=kids_len C.sts (k:Int)
       have HC2:Hid ((stAt C.sts (k:Int)).kind=2→cntK A (kids C.sts (k:Int))=1):=Lib.hid (fun h=>by
        obtain ⟨q,q1,q2,q3⟩:=g3 h
        exact cntK_one HKN.out q1 q2 q3)
       have HC3:Hid ((stAt C.sts (k:Int)).kind=3→cntK A (kids C.sts (k:Int))=(kids C.sts (k:Int)).length):=Lib.hid (fun h=>cntK_all (g4 h))
       have HPAR:Hid (k ≠ 0→∃ q:Nat,(stAt C.sts (k:Int)).par=(q:Int)∧q < C.sts.length∧hasS A (q:Int)=true):=Lib.hid (fun h0=>by
        have hu:=HTA.out.up _ hs (by omega)
        have hp:=HTA.out.par _ hs
        have hlt:=cUp_lt C.sts (k:Int)
        refine ⟨(cUp C.sts (k:Int)).toNat,by rw [hp]; omega,by omega,?_⟩
        rw [show (((cUp C.sts (k:Int)).toNat:Nat):Int)=cUp C.sts (k:Int) by omega]
        exact g2 (by omega))
       generalize kids C.sts (k:Int)=L at *
       generalize (stAt C.sts (k:Int)).kind=Ks at *
       generalize hPs:(stAt C.sts (k:Int)).par=Ps at *
       clear hAk hs hsub g1 g2 g3 g4 hst hPs
       go_wp2_with fail
       refine HHK.out.mono ?_
       rintro e w2 ⟨rfl,rfl⟩
       go_wp2_with fail
       refine HPA.out.mono ?_
       rintro e w3 ⟨rfl,hb3⟩
       have HB3:=Lib.hid (HB.out.trans (hb3.mono HB.out.size))
       obtain ⟨z0,z1,z2⟩:=box_later HB3.out
       obtain ⟨p0,p1⟩:=HSK.out _ (below_boxed HB3.out)
       clear hb3 x0 x1 x2 HHK HPA HB
       by_cases hk0:k=0
       · have hgt:¬ 0 < k:=by omega
         have hgt2:decide (0 < k)=false:=by simp; omega
         clear hk0
         go_wp2_with fail
         refine (HKD.out w3 (below_boxed HB3.out)).mono ?_
         rintro e w5 ⟨hb5,v5,rfl,ho5⟩
         have HB5:=Lib.hid (HB3.out.trans (hb5.mono HB3.out.size))
         have HL5:=Lib.hid (list_of_own ho5)
         obtain ⟨mA,mcap,rfl,hmc⟩:=RowsAt.slice HL5.out
         clear hb5 ho5 z0 z1 z2 p0 p1 HB3 HKD
         go_wp2_with fail
         go_loopw [8,9] (fun nv i wr=>∃ (m:Nat),m≤L.length∧i=.int .i64 (m:Int)∧nv=.int .i64 (cntK A (L.take m):Int)∧wr=w5) (fun _ i _=>L.length - (intOf i).toNat)
         case atStart=>exact ⟨0,Nat.zero_le _,rfl,rfl,rfl⟩
         case round =>
          obtain ⟨m,hm,rfl,rfl,rfl⟩:=hrel
          by_cases hlt2:m < L.length
          · obtain ⟨mb,mo,hmA,hmbl,hmc0⟩:=(let ⟨_,_,h1,_,h3⟩:=HL5.out; by injection h1 with e1 e2 e3; subst e1; exact h3 m _ (List.getElem?_eq_getElem hlt2):∃ b o,mA=some ⟨b,o,none⟩∧b < wr.heap.size∧(IntAt wr b (o+m * 1) L[m]))
            subst hmA
            obtain ⟨j,hj,hjn⟩:=isSt_nat (HKM.out L[m] (List.getElem_mem hlt2))
            have d0:wr.cell? ⟨mb,mo+m,none⟩=some (.int .i64 (j:Int)):=by have:=hmc0; unfold IntAt at this; rw [Nat.mul_one,hj] at this; exact this
            have HSN:Hid (cntK A (L.take (m+1))=cntK A (L.take m)+if hasS A (j:Int)=true then 1 else 0):=Lib.hid (by rw [List.take_succ_eq_append_getElem hlt2,cntK_snoc,hj])
            have hcl:cntK A (L.take m)≤24:=by have:=cntK_le A (L.take m); rw [List.length_take] at this; omega
            have HHJ:=Lib.hid (HHB.out j (by omega) wr)
            rw [HHS.out j hjn] at HHJ
            generalize cntK A (L.take m)=cc at *
            clear hmc0 hj
            cases hAj:hasS A (j:Int) with
            | true =>
             rw [hAj] at HHJ
             rw [hAj,if_pos rfl] at HSN
             clear hAj
             go_wp2_with fail
             refine HHJ.out.mono ?_
             rintro e w6 ⟨rfl,rfl⟩
             go_wp2_with fail
             go_roundw
             case rel=>exact ⟨m+1,by omega,by go_num,by rw [HSN.out]; go_num,trivial⟩
             case measure=>simp [intOf]; omega
            | false =>
             rw [hAj] at HHJ
             rw [hAj,if_neg (by simp)] at HSN
             clear hAj
             go_wp2_with fail
             refine HHJ.out.mono ?_
             rintro e w6 ⟨rfl,rfl⟩
             go_wp2_with fail
             go_roundw
             case rel=>exact ⟨m+1,by omega,by go_num,by rw [HSN.out]; rfl,trivial⟩
             case measure=>simp [intOf]; omega
          · obtain rfl:m=L.length:=by omega
            rw [List.take_length]
            obtain ⟨z0,z1,z2⟩:=box_later HB5.out
            obtain ⟨p0,p1⟩:=HSK.out _ (below_boxed HB5.out)
            by_cases h2:Ks=2
            · rw [HC2.out h2]
              have h2b:(Ks == 2)=true:=by simpa using h2
              have h3b:(Ks == 3)=false:=by rw [h2]; rfl
              clear h2
              go_wp2_with fail
              go_roundw
              case rel=>exact ⟨k+1,by omega,by go_num,HB5⟩
              case measure=>simp [intOf]; omega
            · have h2b:(Ks == 2)=false:=by simpa using h2
              by_cases h3:Ks=3
              · rw [HC3.out h3]
                have h3b:(Ks == 3)=true:=by simpa using h3
                clear h2 h3
                go_wp2_with fail
                go_roundw
                case rel=>exact ⟨k+1,by omega,by go_num,HB5⟩
                case measure=>simp [intOf]; omega
              · have h3b:(Ks == 3)=false:=by simpa using h3
                clear h2 h3
                go_wp2_with fail
                go_roundw
                case rel=>exact ⟨k+1,by omega,by go_num,HB5⟩
                case measure=>simp [intOf]; omega
       · obtain ⟨q,rfl,hqn,hAq⟩:=HPAR.out hk0
         have hgt:0 < k:=by omega
         have HHQ:=Lib.hid (HHB.out q (by omega) w3)
         rw [HHS.out q hqn,hAq] at HHQ
         clear hk0 hAq
         go_wp2_with fail
         refine HHQ.out.mono ?_
         rintro e w4 ⟨rfl,rfl⟩
         go_wp2_with fail
         refine (HKD.out w3 (below_boxed HB3.out)).mono ?_
         rintro e w5 ⟨hb5,v5,rfl,ho5⟩
         have HB5:=Lib.hid (HB3.out.trans (hb5.mono HB3.out.size))
         have HL5:=Lib.hid (list_of_own ho5)
         obtain ⟨mA,mcap,rfl,hmc⟩:=RowsAt.slice HL5.out
         clear hb5 ho5 z0 z1 z2 p0 p1 HB3 HKD
         go_wp2_with fail
         go_loopw [8,9] (fun nv i wr=>∃ (m:Nat),m≤L.length∧i=.int .i64 (m:Int)∧nv=.int .i64 (cntK A (L.take m):Int)∧wr=w5) (fun _ i _=>L.length - (intOf i).toNat)
         case atStart=>exact ⟨0,Nat.zero_le _,rfl,rfl,rfl⟩
         case round =>
          obtain ⟨m,hm,rfl,rfl,rfl⟩:=hrel
          by_cases hlt2:m < L.length
          · obtain ⟨mb,mo,hmA,hmbl,hmc0⟩:=(let ⟨_,_,h1,_,h3⟩:=HL5.out; by injection h1 with e1 e2 e3; subst e1; exact h3 m _ (List.getElem?_eq_getElem hlt2):∃ b o,mA=some ⟨b,o,none⟩∧b < wr.heap.size∧(IntAt wr b (o+m * 1) L[m]))
            subst hmA
            obtain ⟨j,hj,hjn⟩:=isSt_nat (HKM.out L[m] (List.getElem_mem hlt2))
            have d0:wr.cell? ⟨mb,mo+m,none⟩=some (.int .i64 (j:Int)):=by have:=hmc0; unfold IntAt at this; rw [Nat.mul_one,hj] at this; exact this
            have HSN:Hid (cntK A (L.take (m+1))=cntK A (L.take m)+if hasS A (j:Int)=true then 1 else 0):=Lib.hid (by rw [List.take_succ_eq_append_getElem hlt2,cntK_snoc,hj])
            have hcl:cntK A (L.take m)≤24:=by have:=cntK_le A (L.take m); rw [List.length_take] at this; omega
            have HHJ:=Lib.hid (HHB.out j (by omega) wr)
            rw [HHS.out j hjn] at HHJ
            generalize cntK A (L.take m)=cc at *
            clear hmc0 hj
            cases hAj:hasS A (j:Int) with
            | true =>
             rw [hAj] at HHJ
             rw [hAj,if_pos rfl] at HSN
             clear hAj
             go_wp2_with fail
             refine HHJ.out.mono ?_
             rintro e w6 ⟨rfl,rfl⟩
             go_wp2_with fail
             go_roundw
             case rel=>exact ⟨m+1,by omega,by go_num,by rw [HSN.out]; go_num,trivial⟩
             case measure=>simp [intOf]; omega
            | false =>
             rw [hAj] at HHJ
             rw [hAj,if_neg (by simp)] at HSN
             clear hAj
             go_wp2_with fail
             refine HHJ.out.mono ?_
             rintro e w6 ⟨rfl,rfl⟩
             go_wp2_with fail
             go_roundw
             case rel=>exact ⟨m+1,by omega,by go_num,by rw [HSN.out]; rfl,trivial⟩
             case measure=>simp [intOf]; omega
          · obtain rfl:m=L.length:=by omega
            rw [List.take_length]
            obtain ⟨z0,z1,z2⟩:=box_later HB5.out
            obtain ⟨p0,p1⟩:=HSK.out _ (below_boxed HB5.out)
            by_cases h2:Ks=2
            · rw [HC2.out h2]
              have h2b:(Ks == 2)=true:=by simpa using h2
              have h3b:(Ks == 3)=false:=by rw [h2]; rfl
              clear h2
              go_wp2_with fail
              go_roundw
              case rel=>exact ⟨k+1,by omega,by go_num,HB5⟩
              case measure=>simp [intOf]; omega
            · have h2b:(Ks == 2)=false:=by simpa using h2
              by_cases h3:Ks=3
              · rw [HC3.out h3]
                have h3b:(Ks == 3)=true:=by simpa using h3
                clear h2 h3
                go_wp2_with fail
                go_roundw
                case rel=>exact ⟨k+1,by omega,by go_num,HB5⟩
                case measure=>simp [intOf]; omega
              · have h3b:(Ks == 3)=false:=by simpa using h3
                clear h2 h3
                go_wp2_with fail
                go_roundw
                case rel=>exact ⟨k+1,by omega,by go_num,HB5⟩
                case measure=>simp [intOf]; omega
    · have HHK:=Lib.hid (HHB.out k (by omega) wo)
      rw [HHN.out k hkn] at HHK
      go_wp2_with fail
      refine HHK.out.mono ?_
      rintro e w2 ⟨rfl,rfl⟩
      go_wp2_with fail
      go_roundw
      case rel=>exact ⟨k+1,by omega,by go_num,HB⟩
      case measure=>simp [intOf]; omega
  · obtain rfl:k=32:=by omega
    go_wp2_with fail
    go_ret
    exact ⟨rfl,below_boxed HB.out⟩
end Go.Proofs.YtmhkpjcdkjnlnaaGreatDoor
