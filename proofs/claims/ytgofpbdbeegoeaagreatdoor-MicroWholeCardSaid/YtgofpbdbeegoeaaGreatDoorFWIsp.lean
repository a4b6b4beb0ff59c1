/- The contracts of micro's left, entered, thatAreThere. -/
import Derived.Test.YtgofpbdbeegoeaaGreatDoorFWIrc
import Derived.Test.YtgofpbdbeegoeaaGreatDoorFWIfi
import Derived.Test.YtgofpbdbeegoeaaGreatDoorFWHsi
import Derived.Test.YtgofpbdbeegoeaaGreatDoorFWIbf
namespace Go.Proofs.YtgofpbdbeegoeaaGreatDoor
open Go.ChangeShapes Go.WideShapes Go.ChangeAt Go.RowKit
set_option linter.unusedVariables false

section
variable {w0:World} {M:Nat→Option Obj} {t g:Nat} {vs vt:Value} {C:Ch} {w:World} {vh ve vi vo:Value} {X:Se}
theorem bitN_zero':bitN 0=fun _=>false:=by
 funext k
 unfold bitN
 simp
theorem left_bits {C:Ch} (hl:C.sts.length≤24) (P:Nat→Bool) (i:Int):leftN C (bset P C.sts.length) i=bset (bitN (leftN C (bset P C.sts.length) i)) C.sts.length:=by
 unfold leftN
 split
 · have:bitN 0=fun _=>false:=bitN_zero'
   rw [this,bset_none]
 · have h1:bset (leftP C (bset P C.sts.length) i) 24=bset (leftP C (bset P C.sts.length) i) C.sts.length:=bset_more _ hl (fun k hk=>by
    unfold leftP bitN
    rw [Nat.div_eq_of_lt (Nat.lt_of_lt_of_le (bset_lt P _) (Nat.pow_le_pow_right (by decide) hk))]
    rfl)
   rw [h1]
   exact (bset_congr _ fun k hk=>by rw [bset_bitN k hk]).symm
theorem isTrN {R:List Tr} {m:Nat} (h:m < R.length):isTr R (m:Int)=true:=by unfold isTr; simp; omega
theorem leftQ_succ (C:Ch) (n:Nat) (l:List Int) (m k:Nat):leftQ C n l (m+1) k=(leftQ C n l m k || (l.contains (m:Int) && bitN (leftN C n (m:Int)) k)):=any_succ _ _
theorem entQ_succ (C:Ch) (H:List Nat) (l:List Int) (m k:Nat):entQ C H l (m+1) k=(entQ C H l m k || (decide ((trAt C.trs (m:Int)).tgts ≠ []) && (l.contains (m:Int) && (pSet C.sts H (rchL C (m:Int)) (trAt C.trs (m:Int)).tgts).a k))):=any_succ _ _
set_option maxHeartbeats 4000000 in
set_option maxRecDepth 100000 in
theorem left_any (hF:Fx w0 t vs vt C) (hS:SeAt w0 M t g vs vt C w vh ve vi vo X) {B:Nat} (vl:Value) (l:List Int) (hv:w.ownsRow B 3 1 vl l.length (intVals l)) (hll:l.length≤1000000) :
 Calls Tryz.prog 45 #[.pointer (some ⟨g,0,none⟩),vl] w fun e w'=>e=.returned (.int .u32 ((bset (leftQ C (bset X.a C.sts.length) l C.trs.length) C.sts.length:Nat):Int))∧Below w.heap.size w w':=by
 have hlen:=hF.tame.len
 have hta:=hF.tame
 have hro:=hF.rooted
 have htl:=(few_parts hF.few).2.1
 obtain ⟨sA,scap,tA,tcap,rfl,rfl⟩:=hF.has.slices
 obtain ⟨lA,lcap,rfl⟩:=own_slice hv
 have HS:=Lib.hid hS
 have HCN:=Lib.hid (fun (W:World) (h:Below w.heap.size w W) (x:Int)=>contains_row _ B l x W (own_below hv h) hll)
 have HLS:=Lib.hid (fun (W:World) (h:Below w.heap.size w W) (i:Int)=>lset_any t (bset X.a C.sts.length) i C W (hF.tree.below (hS.below.trans (h.mono hS.lt))) hF.few hta hro (bset_u32 _ (by omega)))
 have HBT:=Lib.hid (fun i=>left_bits (C:=C) hlen X.a i)
 have HSU:=Lib.hid (fun m k=>leftQ_succ C (bset X.a C.sts.length) l m k)
 have H0:Hid (bset (leftQ C (bset X.a C.sts.length) l 0) C.sts.length=0):=Lib.hid (bset_none _)
 obtain ⟨⟨x0,x1,x2,x3,x4⟩,-⟩:=hS.cells
 obtain ⟨N,hN⟩:∃ N,bset X.a C.sts.length=N:=⟨_,rfl⟩
 rw [hN] at HLS HBT HSU H0 x4 ⊢
 have HN:=Lib.hid hN
 generalize leftQ C N l=LQ at *
 clear hF hta hro hS hv hN
 go_enter Tryz.func45,Tryz.ntmps45
 go_wp2_with fail
 go_loopw [5,13] (fun v i wr=>∃ m:Nat,m≤C.trs.length∧i=.int .i64 (m:Int)∧v=.int .u32 ((bset (LQ m) C.sts.length:Nat):Int)∧Below w.heap.size w wr) (fun _ i _=>C.trs.length - (intOf i).toNat)
 case atStart=>exact ⟨0,Nat.zero_le _,rfl,by rw [H0.out]; rfl,Below.refl _ _⟩
 case round =>
  obtain ⟨m,hm,rfl,rfl,hb⟩:=hrel
  obtain ⟨wo,rfl⟩:∃ wo:World,wo=wr:=⟨_,rfl⟩
  clear x0 x1 x2 x3 x4
  have HB:=Lib.hid hb
  clear hb
  by_cases hlt:m < C.trs.length
  · have HC0:=Lib.hid (HCN.out wo HB.out (m:Int))
    cases hc:l.contains (m:Int) with
    | false =>
     rw [hc] at HC0
     have HU:Hid (bset (LQ (m+1)) C.sts.length=bset (LQ m) C.sts.length):=Lib.hid (bset_congr _ fun k _=>by rw [HSU.out,hc]; simp)
     clear hc
     go_wp2_with fail
     refine HC0.out.mono ?_
     rintro e w2 ⟨rfl,rfl⟩
     go_wp2_with fail
     go_roundw
     case rel=>exact ⟨m+1,by omega,by go_num,by rw [HU.out],HB.out⟩
     case measure=>simp [intOf]; omega
    | true =>
     rw [hc] at HC0
     have hor:=or_sets (LQ m) (bitN (leftN C N (m:Int))) C.sts.length (by omega)
     have HU:Hid (bset (LQ (m+1)) C.sts.length=bset (fun k=>LQ m k || bitN (leftN C N (m:Int)) k) C.sts.length):=Lib.hid (bset_congr _ fun k _=>by rw [HSU.out,hc]; simp)
     have HBM:=Lib.hid (HBT.out (m:Int))
     rw [← HBM.out] at hor
     have HOR:=Lib.hid hor
     have HLD:=Lib.hid (HLS.out wo.drew HB.out.drew (m:Int))
     have HSD:=Lib.hid ((HS.out.after HB.out).drew)
     obtain ⟨⟨y0,-,-,-,y4⟩,-⟩:=HSD.out.cells
     rw [HN.out] at y4
     generalize leftN C N (m:Int)=NL at *
     clear hc hor
     go_wp2_with fail
     refine HC0.out.mono ?_
     rintro e w2 ⟨rfl,rfl⟩
     go_wp2_with fail
     refine anyD_start (fun W=>W.cell? ⟨g,0,none⟩=some (.pointer (some ⟨t,0,none⟩))∧W.cell? ⟨g,4,none⟩=some (.int .u32 (N:Int))) (fun i=>[].contains i) (by kernel_rfl) ?_
     try simp only [Act.put,sx]
     have hd1:Below w.heap.size w wo.drew:=HB.out.drew
     generalize wo.drew=w3 at *
     refine anyD_t 0 (.int .u32 ((bset (LQ m) C.sts.length:Nat):Int)) ?_
     try simp only [Act.put,sx]
     refine anyD_t 1 (.pointer (some ⟨g,0,none⟩)) ?_
     try simp only [Act.put,sx]
     refine anyD_t 2 (.pointer (some ⟨g,0,none⟩)) ?_
     try simp only [Act.put,sx]
     refine anyD_t 3 (.pointer (some ⟨g,0,none⟩)) ?_
     try simp only [Act.put,sx]
     refine anyD_l 4 (.pointer (some ⟨t,0,none⟩)) (⟨y0,y4⟩) ?_
     try simp only [Act.put,sx]
     refine anyD_t 5 (.pointer (some ⟨g,0,none⟩)) ?_
     try simp only [Act.put,sx]
     refine anyD_t 6 (.pointer (some ⟨g,0,none⟩)) ?_
     try simp only [Act.put,sx]
     refine anyD_t 7 (.pointer (some ⟨g,4,none⟩)) ?_
     try simp only [Act.put,sx]
     refine anyD_t 8 (.pointer (some ⟨g,4,none⟩)) ?_
     try simp only [Act.put,sx]
     refine anyD_l 9 (.int .u32 (N:Int)) (⟨y0,y4⟩) ?_
     try simp only [Act.put,sx]
     refine anyD_t 10 (.int .i64 (m:Int)) ?_
     try simp only [Act.put,sx]
     refine anyD_one (i:=11) rfl rfl (by kernel_rfl) (fun K HK=>?_)
     go_simp
     refine HLD.out.mono ?_
     rintro e w4 ⟨rfl,hb4⟩
     have HB4:=Lib.hid (hd1.trans (hb4.mono hd1.size))
     have HS4:=Lib.hid (HSD.out.after hb4)
     obtain ⟨⟨z0,-,-,-,z4⟩,-⟩:=HS4.out.cells
     rw [HN.out] at z4
     clear hb4
     go_simp
     refine HK.out _ _ (fun _ hS=>⟨z0,z4⟩) ?_
     clear HK K
     try simp only [Act.put,sx]
     refine anyD_one (i:=12) rfl rfl (by kernel_rfl) (fun K HK=>?_)
     go_simp
     rw [HOR.out]
     refine HK.out _ _ (fun _ hS=>⟨z0,z4⟩) ?_
     clear HK K
     try simp only [Act.put,sx]
     refine anyD_one (i:=13) rfl rfl (by kernel_rfl) (fun K HK=>?_)
     go_simp
     refine HK.out _ _ (fun _ hS=>⟨z0,z4⟩) ?_
     clear HK K
     try simp only [Act.put,sx]
     refine anyD_done (by kernel_rfl) ?_
     go_wp2_with fail
     go_roundw
     case rel=>exact ⟨m+1,by omega,by go_num,by rw [HU.out],HB4.out⟩
     case measure=>simp [intOf]; omega
  · obtain rfl:m=C.trs.length:=by omega
    go_wp2_with fail
    go_ret
    exact ⟨rfl,HB.out⟩
set_option maxHeartbeats 8000000 in
set_option maxRecDepth 100000 in
theorem entered_any (hF:Fx w0 t vs vt C) (hS:SeAt w0 M t g vs vt C w vh ve vi vo X) (hHl:X.hist.length≤1000) {B:Nat} (vl:Value) (l:List Int) (hv:w.ownsRow B 3 1 vl l.length (intVals l)) (hll:l.length≤1000000) :
 Calls Tryz.prog 48 #[.pointer (some ⟨g,0,none⟩),vl] w fun e w'=>e=.returned (.int .u32 ((bset (entQ C X.hist l C.trs.length) C.sts.length:Nat):Int))∧Below w.heap.size w w':=by
 have hlen:=hF.tame.len
 have hta:=hF.tame
 have hro:=hF.rooted
 have htl:=(few_parts hF.few).2.1
 obtain ⟨sA,scap,tA,tcap,rfl,rfl⟩:=hF.has.slices
 obtain ⟨lA,lcap,rfl⟩:=own_slice hv
 have HS:=Lib.hid hS
 have HF:=Lib.hid hF
 have HCN:=Lib.hid (fun (W:World) (h:Below w.heap.size w W) (x:Int)=>contains_row _ B l x W (own_below hv h) hll)
 have HRE:=Lib.hid (fun (W:World) (h:Below w.heap.size w W) (i:Int)=>reach_any t i C W (hF.tree.below (hS.below.trans (h.mono hS.lt))) hF.few hta hro)
 have HBL:=Lib.hid (fun (W:World) (h:Below w.heap.size w W) (a:Int) (v:Value) (L:List Int) (hL:ListAt W v L) (hl:L.length≤1000)=>below_anyM hF (hS.after h) hHl a v L hL hl)
 have HSU:=Lib.hid (fun m k=>entQ_succ C X.hist l m k)
 have HTG:=Lib.hid (fun (m:Nat) (hm:m < C.trs.length)=>few_tgts hF.few (m:Int))
 have H0:Hid (bset (entQ C X.hist l 0) C.sts.length=0):=Lib.hid (bset_none _)
 obtain ⟨⟨x0,x1,x2,x3,x4⟩,-⟩:=hS.cells
 generalize entQ C X.hist l=LQ at *
 clear hF hta hro hS hv hHl
 go_enter Tryz.func48,Tryz.ntmps48
 go_wp2_with fail
 go_loopw [5,14] (fun v i wr=>∃ m:Nat,m≤C.trs.length∧i=.int .i64 (m:Int)∧v=.int .u32 ((bset (LQ m) C.sts.length:Nat):Int)∧Below w.heap.size w wr) (fun _ i _=>C.trs.length - (intOf i).toNat)
 case atStart=>exact ⟨0,Nat.zero_le _,rfl,by rw [H0.out]; rfl,Below.refl _ _⟩
 case round =>
  obtain ⟨m,hm,rfl,rfl,hb⟩:=hrel
  obtain ⟨wo,rfl⟩:∃ wo:World,wo=wr:=⟨_,rfl⟩
  clear x0 x1 x2 x3 x4
  have HB:=Lib.hid hb
  by_cases hlt:m < C.trs.length
  · obtain ⟨b,o,cap',wt,wa,hsl,_,hbl,htr,hth⟩:=HF.out.has.tra hlt
    injection hsl with e1 e2 e3
    subst e1
    have hbw:=HS.out.below.trans (hb.mono HS.out.lt)
    obtain ⟨c0,c1,c2,c3,c4,c5⟩:=htr.below hbw hbl
    have HTH:=Lib.hid (hth.below hbw)
    obtain ⟨tgA,tgcap,acA,accap,rfl,rfl⟩:=hth.slices
    have hsu:=fun k=>HSU.out m k
    have htg:=HTG.out m hlt
    have htro:trOf C.trs (m:Int)=trAt C.trs (m:Int):=by unfold trOf; rw [if_pos (isTrN hlt)]
    rw [htro] at htg
    obtain ⟨T,hT⟩:∃ T,trAt C.trs (m:Int)=T:=⟨_,rfl⟩
    rw [hT] at c0 c1 c2 c3 c4 c5 HTH hsu htg
    obtain ⟨src,ev,gu,tg,inn,ac⟩:=T
    simp only at c0 c1 c2 c3 c4 c5 HTH hsu htg
    have hg1:trOf C.trs (m:Int)=⟨src,ev,gu,tg,inn,ac⟩:=by rw [htro,hT]
    clear htr hth e2 e3 htro hT hbw
    have HBA:=Lib.hid (hb.alloc hb.size (.cells #[.int .i64 src,.int .i64 ev,.string gu,.slice tgA tg.length tgcap,.bool inn,.slice acA ac.length accap] 62))
    have HBX:=Lib.hid (Blk.new wo 62 #[.int .i64 src,.int .i64 ev,.string gu,.slice tgA tg.length tgcap,.bool inn,.slice acA ac.length accap])
    have HTL:=Lib.hid (HTH.out.1.below (below_box wo (.cells #[.int .i64 src,.int .i64 ev,.string gu,.slice tgA tg.length tgcap,.bool inn,.slice acA ac.length accap] 62)))
    clear hb
    by_cases htn:tg=[]
    · have HU:Hid (bset (LQ (m+1)) C.sts.length=bset (LQ m) C.sts.length):=Lib.hid (bset_congr _ fun k _=>by rw [hsu k,htn]; simp)
      subst htn
      clear hsu hg1
      go_wp2_with fail
      go_roundw
      case rel=>exact ⟨m+1,by omega,by go_num,by rw [HU.out],HBA.out⟩
      case measure=>simp [intOf]; omega
    · have hpos:0 < tg.length:=List.length_pos_iff.2 htn
      have HTN:=Lib.hid htn
      generalize hgl:tg.length=tl at *
      have HTG3:Hid (tg.length≤1000):=Lib.hid (by omega)
      clear htn htg hgl
      have htn:=HTN.out
      have HC0:=Lib.hid (HCN.out _ HBA.out (m:Int))
      cases hc:l.contains (m:Int) with
      | false =>
       rw [hc] at HC0
       have HU:Hid (bset (LQ (m+1)) C.sts.length=bset (LQ m) C.sts.length):=Lib.hid (bset_congr _ fun k _=>by rw [hsu k,hc]; simp)
       clear hc hsu hg1 htn
       go_wp2_with fail
       refine HC0.out.mono ?_
       rintro e w2 ⟨rfl,rfl⟩
       go_wp2_with fail
       go_roundw
       case rel=>exact ⟨m+1,by omega,by go_num,by rw [HU.out],HBA.out⟩
       case measure=>simp [intOf]; omega
      | true =>
       rw [hc] at HC0
       have hor:=or_sets (LQ m) (pSet C.sts X.hist (rchL C (m:Int)) tg).a C.sts.length (by omega)
       have HU:Hid (bset (LQ (m+1)) C.sts.length=bset (fun k=>LQ m k || (pSet C.sts X.hist (rchL C (m:Int)) tg).a k) C.sts.length):=Lib.hid (bset_congr _ fun k _=>by rw [hsu k,hc]; simp [htn])
       have HOR:=Lib.hid hor
       clear hor
       have HRD:=Lib.hid (HRE.out _ HBA.out.drew (m:Int))
       have HSD:=Lib.hid ((HS.out.after HBA.out).drew)
       clear htn hc hsu hg1
       have HBD:=Lib.hid HBA.out.drew
       have HXD:=Lib.hid HBX.out.drew
       have HTD:=Lib.hid (HTL.out.below (Below.refl _ _).drew)
       obtain ⟨⟨y0,-,-,-,-⟩,-⟩:=HSD.out.cells
       have y3:=HXD.out.cell 3
       go_wp2_with fail
       refine HC0.out.mono ?_
       rintro e w2 ⟨rfl,rfl⟩
       go_wp2_with fail
       refine anyD_start (fun W=>W.cell? ⟨g,0,none⟩=some (.pointer (some ⟨t,0,none⟩))∧W.cell? ⟨wo.heap.size,3,none⟩=some (.slice tgA tl tgcap)) (fun i=>[].contains i) (by kernel_rfl) ?_
       try simp only [Act.put,sx]
       generalize (wo.alloc (.cells #[.int .i64 src,.int .i64 ev,.string gu,.slice tgA tl tgcap,.bool inn,.slice acA ac.length accap] 62)).drew=w3 at *
       refine anyD_t 0 (.int .u32 ((bset (LQ m) C.sts.length:Nat):Int)) ?_
       try simp only [Act.put,sx]
       refine anyD_t 1 (.pointer (some ⟨g,0,none⟩)) ?_
       try simp only [Act.put,sx]
       refine anyD_t 2 (.pointer (some ⟨g,0,none⟩)) ?_
       try simp only [Act.put,sx]
       refine anyD_t 3 (.pointer (some ⟨g,0,none⟩)) ?_
       try simp only [Act.put,sx]
       refine anyD_t 4 (.pointer (some ⟨g,0,none⟩)) ?_
       try simp only [Act.put,sx]
       refine anyD_l 5 (.pointer (some ⟨t,0,none⟩)) (⟨y0,y3⟩) ?_
       try simp only [Act.put,sx]
       refine anyD_t 6 (.int .i64 (m:Int)) ?_
       try simp only [Act.put,sx]
       refine anyD_t 8 (.pointer (some ⟨wo.heap.size,3,none⟩)) ?_
       try simp only [Act.put,sx]
       refine anyD_l 9 (.slice tgA tl tgcap) (⟨y0,y3⟩) ?_
       try simp only [Act.put,sx]
       refine anyD_one (i:=7) rfl rfl (by kernel_rfl) (fun K HK=>?_)
       go_simp
       refine HRD.out.mono ?_
       rintro e w4 ⟨rfl,hb4⟩
       have HB4:=Lib.hid (HBD.out.trans (hb4.mono HBD.out.size))
       have HS4:=Lib.hid (HSD.out.after hb4)
       have HX4:=Lib.hid (HXD.out.below hb4 HXD.out.lt)
       have HBE:=Lib.hid (HBL.out w4 HB4.out (rchL C (m:Int)) (.slice tgA tl tgcap) tg (HTD.out.below hb4) HTG3.out)
       obtain ⟨⟨z0,-,-,-,-⟩,-⟩:=HS4.out.cells
       have z3:=HX4.out.cell 3
       clear hb4
       go_simp
       refine HK.out _ _ (fun _ hS=>⟨z0,z3⟩) ?_
       clear HK K
       try simp only [Act.put,sx]
       refine anyD_one (i:=10) rfl rfl (by kernel_rfl) (fun K HK=>?_)
       go_simp
       refine HBE.out.mono ?_
       rintro e w5 ⟨rfl,hb5⟩
       have HB5:=Lib.hid (HB4.out.trans (hb5.mono HB4.out.size))
       have HS5:=Lib.hid (HS4.out.after hb5)
       have HX5:=Lib.hid (HX4.out.below hb5 HX4.out.lt)
       obtain ⟨⟨q0,-,-,-,-⟩,-⟩:=HS5.out.cells
       have q3:=HX5.out.cell 3
       clear hb5
       go_simp
       refine HK.out _ _ (fun _ hS=>⟨q0,q3⟩) ?_
       clear HK K
       try simp only [Act.put,sx]
       refine anyD_one (i:=11) rfl rfl (by kernel_rfl) (fun K HK=>?_)
       go_simp
       rw [HOR.out]
       refine HK.out _ _ (fun _ hS=>⟨q0,q3⟩) ?_
       clear HK K
       try simp only [Act.put,sx]
       refine anyD_one (i:=12) rfl rfl (by kernel_rfl) (fun K HK=>?_)
       go_simp
       refine HK.out _ _ (fun _ hS=>⟨q0,q3⟩) ?_
       clear HK K
       try simp only [Act.put,sx]
       refine anyD_done (by kernel_rfl) ?_
       go_wp2_with fail
       go_roundw
       case rel=>exact ⟨m+1,by omega,by go_num,by rw [HU.out],HB5.out⟩
       case measure=>simp [intOf]; omega
  · obtain rfl:m=C.trs.length:=by omega
    clear hb
    go_wp2_with fail
    go_ret
    exact ⟨rfl,HB.out⟩
end

theorem entersTy:Enters 87:=enters_of Tryz.func87 (by kernel_rfl) rfl
section
variable {w0:World} {M:Nat→Option Obj} {t g:Nat} {vs vt:Value} {C:Ch} {w:World} {vh ve vi vo:Value} {X:Se}
set_option maxHeartbeats 4000000 in
set_option maxRecDepth 100000 in
theorem nowhere_any (hC:ChHas w0 vs vt C) (hS:SeAt w0 M t g vs vt C w vh ve vi vo X) (c:Nat) (cs:Array Value) (ty:TypeId) (hc:Blk w c ty cs) (h0:cs[0]?=some (.pointer (some ⟨g,0,none⟩))) (k:Nat) (hk:k < C.trs.length) :
 Calls Tryz.prog 87 #[.int .i64 (k:Int),.pointer (some ⟨c,0,none⟩)] w fun e w'=>e=.returned (.bool false)∧w=w':=by
 obtain ⟨sA,scap,tA,tcap,rfl,rfl⟩:=hC.slices
 obtain ⟨⟨x0,x1,x2,x3,x4⟩,-⟩:=hS.cells
 have y0:w.cell? ⟨c,0,none⟩=some (.pointer (some ⟨g,0,none⟩)):=(hc.cell 0).trans h0
 have d0:decide ((k:Int) < 0)=false:=by simp
 have d1:decide ((C.trs.length:Int)≤(k:Int))=false:=decide_eq_false (by omega)
 clear hC hS hc h0
 go_enter Tryz.func87,Tryz.ntmps87
 go_wp2_with fail
 go_ret
 exact ⟨ret_bool (decide_eq_false (by omega)),rfl⟩
set_option maxHeartbeats 4000000 in
set_option maxRecDepth 100000 in
theorem idxI_none (F:Nat) (caps:Array Value) (v:Value) (B:Nat) (l:List Int) (w:World) (hE:Enters F) (hp:∀ (W:World) (x:Int),x ∈ l→Below w.heap.size w W→Calls Tryz.prog F (#[.int .i64 x] ++ caps) W fun e w'=>e=.returned (.bool false)∧W=w') (hv:w.ownsRow B 3 1 v l.length (intVals l)) (hl:l.length≤1000) :
 Calls Tryz.prog 124 #[v,.func (.func F) #[] caps] w fun e w'=>e=.returned (.int .i64 (-1))∧w=w':=by
 have HP:=Lib.hid (fun x hx=>hp w x hx (Below.refl _ _))
 have HLA:=Lib.hid (list_of_own hv)
 obtain ⟨lA,lcap,rfl⟩:=own_slice hv
 unfold Enters at hE
 clear hp hv
 go_enter Tryz.func124,Tryz.ntmps124
 go_wp2_with fail
 go_loopw [8] (fun i wr=>∃ k:Nat,k≤l.length∧i=.int .i64 (k:Int)∧wr=w) (fun i _=>l.length - (intOf i).toNat)
 case atStart=>exact ⟨0,Nat.zero_le _,rfl,rfl⟩
 case round =>
  obtain ⟨k,hk,rfl,rfl⟩:=hrel
  by_cases hlt:k < l.length
  · obtain ⟨_,_,q1,_,q3⟩:=HLA.out
    injection q1 with e1 e2 e3
    subst e1
    obtain ⟨b,o,rfl,hbl,hc⟩:=q3 k _ (List.getElem?_eq_getElem hlt)
    have c0:wr.cell? ⟨b,o+k,none⟩=some (.int .i64 l[k]):=by have:=hc; unfold IntAt at this; rwa [Nat.mul_one] at this
    have HCALL:=Lib.hid (HP.out l[k] (List.getElem_mem hlt))
    generalize l[k]=x at *
    clear hc q3 e2 e3
    go_wp2_with fail
    refine HCALL.out.mono ?_
    rintro e w1 ⟨rfl,rfl⟩
    go_wp2_with fail
    go_roundw
    case rel=>exact ⟨k+1,by omega,by go_num,trivial⟩
    case measure=>simp [intOf]; omega
  · obtain rfl:k=l.length:=by omega
    go_wp2_with fail
    go_ret
    exact ⟨rfl,rfl⟩
set_option maxHeartbeats 4000000 in
set_option maxRecDepth 100000 in
theorem delI_none (F:Nat) (caps:Array Value) (v:Value) (B:Nat) (l:List Int) (w:World) (hE:Enters F) (hp:∀ (W:World) (x:Int),x ∈ l→Below w.heap.size w W→Calls Tryz.prog F (#[.int .i64 x] ++ caps) W fun e w'=>e=.returned (.bool false)∧W=w') (hv:w.ownsRow B 3 1 v l.length (intVals l)) (hl:l.length≤1000) :
 Calls Tryz.prog 88 #[v,.func (.func F) #[] caps] w fun e w'=>e=.returned v∧w=w':=by
 have HI:=Lib.hid (idxI_none F caps v B l w hE hp hv hl)
 obtain ⟨lA,lcap,rfl⟩:=own_slice hv
 clear hp hv hE
 go_enter Tryz.func88,Tryz.ntmps88
 go_wp2_with fail
 refine HI.out.mono ?_
 rintro e w1 ⟨rfl,rfl⟩
 go_wp2_with fail
 go_ret
 exact ⟨rfl,rfl⟩
set_option maxHeartbeats 4000000 in
set_option maxRecDepth 100000 in
theorem thatAreThere_any (hF:Fx w0 t vs vt C) (hS:SeAt w0 M t g vs vt C w vh ve vi vo X) (vl:Value) (l:List Int) (hv:ListAt w vl l) (hll:l.length≤1000) (hin:∀ i ∈ l,isTr C.trs i=true) :
 Calls Tryz.prog 43 #[.pointer (some ⟨g,0,none⟩),vl] w fun e w'=>∃ v',e=.returned v'∧Below w.heap.size w w'∧w'.ownsRow w.heap.size 3 1 v' l.length (intVals l):=by
 have HCL:=Lib.hid (fun (W:World) (h:Below w.heap.size w W)=>cloneI_any vl l W (hv.below h) (by omega))
 have hb0:=below_box w (.cells #[.pointer (some ⟨g,0,none⟩)] 88)
 have HB0:=Lib.hid hb0
 have HBX:=Lib.hid (Blk.new w 88 #[.pointer (some ⟨g,0,none⟩)])
 have HNW:=Lib.hid (fun (W:World) (h:Below (w.alloc (.cells #[.pointer (some ⟨g,0,none⟩)] 88)).heap.size (w.alloc (.cells #[.pointer (some ⟨g,0,none⟩)] 88)) W) (x:Int) (hx:x ∈ l)=>(by
  obtain ⟨k,rfl,hk⟩:=isTr_nat (hin x hx)
  exact nowhere_any hF.has ((hS.after hb0).after h) w.heap.size _ _ ((Blk.new w 88 #[.pointer (some ⟨g,0,none⟩)]).below h (by simp)) rfl k hk:Calls Tryz.prog 87 (#[.int .i64 x] ++ #[.pointer (some ⟨w.heap.size,0,none⟩)]) W fun e w'=>e=.returned (.bool false)∧W=w'))
 obtain ⟨lA,lcap,rfl,-⟩:=RowsAt.slice hv
 clear hF hS hv hin hb0
 go_enter Tryz.func43,Tryz.ntmps43
 go_wp2_with fail
 refine (HCL.out _ HB0.out).mono ?_
 rintro e w2 ⟨hb2,v2,rfl,hown2⟩
 obtain ⟨A2,cap2,rfl⟩:=own_slice hown2
 have HB2:=Lib.hid (HB0.out.trans (hb2.mono HB0.out.size))
 have HO2:=Lib.hid (own_lower hown2 HB0.out.size)
 have HDL:=Lib.hid (delI_none 87 #[.pointer (some ⟨w.heap.size,0,none⟩)] _ _ l w2 entersTy (fun W x hx h=>HNW.out W (hb2.trans (h.mono hb2.size)) x hx) hown2 hll)
 clear hb2 hown2
 go_wp2_with fail
 refine HDL.out.mono ?_
 rintro e w3 ⟨rfl,rfl⟩
 go_wp2_with fail
 go_ret
 exact ⟨_,rfl,HB2.out,HO2.out⟩
end

theorem own_stays {w w2:World} {B:Nat} {e:TypeId} {s n:Nat} {v:Value} {xs:List Value} (h:w.ownsRow B e s v n xs) (hb:∀ b,v.ownBlock=some b→w2.heap[b]?=w.heap[b]?):w2.ownsRow B e s v n xs:=by
 refine ⟨h.1,?_⟩
 rcases h.2 with h0 | ⟨g,cap,cur,rfl,h2,h3,h4⟩
 · exact .inl h0
 · exact .inr ⟨g,cap,cur,rfl,h2,(hb g rfl).trans h3,h4⟩
theorem RowAt.blockLt {ρ:Type} {B:Nat} {w:World} {e n:Nat} {cells:ρ→List Value} {v:Value} {L:List ρ} (h:RowAt B w e n cells v L) {k:Nat} (hk:v.ownBlock=some k):k < w.heap.size:=by
 rcases h with ⟨rfl,_⟩ | ⟨g',cap,cur,rfl,_,h3,_⟩
 · cases hk
 · injection hk with hk
   subst hk
   exact h3.lt
section
variable {w0:World} {t g:Nat} {vs vt:Value} {C:Ch} {w w' w1:World} {vh ve vi vo:Value} {X:Se}
theorem SeAt.keepRow (h:SeAt w0 (fun _=>none) t g vs vt C w vh ve vi vo X) (hb:Below w.heap.size w w') {e:TypeId} {s n:Nat} {v:Value} {xs:List Value} (ho:w'.ownsRow w.heap.size e s v n xs) :
 SeAt w0 (fun k=>if v.ownBlock=some k then w'.heap[k]? else none) t g vs vt C w' vh ve vi vo X:=by
 have h':=h.after hb
 refine ⟨h'.below,h'.ge,h'.blk,h'.rows,fun k o hM=>?_⟩
 by_cases hk:v.ownBlock=some k
 · rw [if_pos hk] at hM
   have hge:=(ho.lt k hk).1
   have hg:=h.blk.lt
   refine ⟨hM,by omega,fun hc=>?_,fun hc=>?_,fun hc=>?_⟩
   · have:=RowAt.blockLt h.rows.hist.1 hc
     omega
   · have:=(h.rows.ins.lt k hc).2
     omega
   · have:=(h.rows.out.lt k hc).2
     omega
 · rw [if_neg hk] at hM
   cases hM
theorem SeAt.rowKept {e:TypeId} {B s n:Nat} {v:Value} {xs:List Value} (h:SeAt w0 (fun k=>if v.ownBlock=some k then w1.heap[k]? else none) t g vs vt C w vh ve vi vo X) (ho:w1.ownsRow B e s v n xs):w.ownsRow B e s v n xs:=by
 refine own_stays ho fun b hb=>?_
 have hlt:=(ho.lt b hb).2
 have hx:w1.heap[b]?=some w1.heap[b]:=Array.getElem?_eq_getElem hlt
 rw [hx]
 exact (h.prot b _ (by rw [if_pos hb]; exact hx)).1
end
theorem Fx.tacts {w0:World} {t:Nat} {vs vt:Value} {C:Ch} (h:Fx w0 t vs vt C) (s:Int):(trAt C.trs s).acts.length≤40∧∀ a ∈ (trAt C.trs s).acts,a.expr.size≤1000000:=by
 unfold trAt
 rcases Nat.lt_or_ge s.toNat C.trs.length with hk | hk
 · have:=(few_parts h.few).2.2.2 s.toNat hk
   unfold fewTrB at this
   simp only [Bool.and_eq_true,decide_eq_true_eq] at this
   exact of_fewActs this.1.1
 · rw [List.getD_eq_getElem?_getD,List.getElem?_eq_none hk]
   exact ⟨by decide,fun a ha=>by cases ha⟩
def StPost (C:Ch) (Y:Se) (w:World) (e:Ending) (w':World):Prop:=Below w.heap.size w w'∧∃ v vo,e=.returned (.tuple #[v,vo])∧RunOw w.heap.size w' C.sts.length v vo Y
set_option maxHeartbeats 8000000 in
set_option maxRecDepth 100000 in
theorem mstep_any (t:Nat) (C:Ch) (w:World) (hL:Laid w) (hT:TreeAt w t C) (hk:chk hasTB C=.ok) (hFw:fewB C=true) (a:Nat→Bool) (vh ve vi vl:Value) (H:List Nat) (env ins l:List Int) (st:Int)
 (hH:HistAt w vh H) (hHl:H.length≤900) (hE:NumsAt w ve env) (hEl:env.length≤1000) (hEf:∀ x ∈ env,F64 x) (hI:ListAt w vi ins) (hIl:ins.length≤100000) (hv:ListAt w vl l) (hll:l.length≤1000) (hin:∀ i ∈ l,isTr C.trs i=true) :
 Calls Tryz.prog 14 #[.pointer (some ⟨t,0,none⟩),.agg #[.int .u32 ((bset a C.sts.length:Nat):Int),vh,ve,vi,.int .i64 st],vl] w (StPost C (stpS C l ⟨a,padH C.sts.length H,env,ins,st,[]⟩) w):=by
 have hta:=tame_of hk
 have hcl:=hta.len
 obtain ⟨hA,hcap,rfl,hhcap⟩:=RowsAt.slice hH
 obtain ⟨eA,ecap,rfl,hecap⟩:=RowsAt.slice (rows_of_nums hE)
 obtain ⟨iA,icap,rfl,hicap⟩:=RowsAt.slice hI
 obtain ⟨lA,lcap,rfl,hlcap⟩:=RowsAt.slice hv
 have hb0:Below w.heap.size w ((w.alloc (.cells #[.int .u32 ((bset a C.sts.length:Nat):Int),.slice hA H.length hcap,.slice eA env.length ecap,.slice iA ins.length icap,.int .i64 st] 31)).alloc (.cells #[.int .u32 0,.slice none 0 0,.slice none 0 0,.slice none 0 0,.int .i64 0] 31)):=(below_box w _).alloc (by simp) _
 have HB0:=Lib.hid hb0
 have HX0:=Lib.hid ((Blk.new w 31 #[.int .u32 ((bset a C.sts.length:Nat):Int),.slice hA H.length hcap,.slice eA env.length ecap,.slice iA ins.length icap,.int .i64 st]).alloc (.cells #[.int .u32 0,.slice none 0 0,.slice none 0 0,.slice none 0 0,.int .i64 0] 31))
 have HY0:=Lib.hid (Blk.new_at (w.alloc (.cells #[.int .u32 ((bset a C.sts.length:Nat):Int),.slice hA H.length hcap,.slice eA env.length ecap,.slice iA ins.length icap,.int .i64 st] 31)) 31 #[.int .u32 0,.slice none 0 0,.slice none 0 0,.slice none 0 0,.int .i64 0] (w.heap.size+1) (by simp))
 have HSF:=Lib.hid (stepFrom_any t C _ (hL.after hb0) (hT.below hb0) hk hFw a _ _ _ H env ins st (hH.below hb0) (by omega) (hE.below hb0) hEl (hI.below hb0) hIl)
 have HLV:=Lib.hid (fun (W:World) (h:Below w.heap.size w W)=>hv.below h)
 have hnt:=fun W=>nilT_no t W
 have HX:Hid (Lim 0 ⟨a,padH C.sts.length H,env,ins,st,[]⟩):=Lib.hid ⟨hEl,hEf,by show ([]:List Ou).length≤_; simp,by show ins.length≤_; omega⟩
 have HIN:=Lib.hid hin
 have HPL:Hid (C.sts.length≤(padH C.sts.length H).length∧(padH C.sts.length H).length≤1000):=Lib.hid (by rw [padH_len]; omega)
 obtain ⟨X0,hX0⟩:∃ X0:Se,(⟨a,padH C.sts.length H,env,ins,st,[]⟩:Se)=X0:=⟨_,rfl⟩
 have HXH:Hid (X0.hist=padH C.sts.length H):=Lib.hid (by rw [← hX0])
 rw [hX0] at HSF HX ⊢
 have HXA:Hid (X0.a=a):=Lib.hid (by rw [← hX0])
 obtain ⟨⟨x0,x1,x2,x3,x4⟩,-⟩:=blk5_facts HX0.out
 clear hL hT hk hFw hH hE hI hv hin hb0 hhcap hecap hicap hlcap hta hEf hX0
 go_enter Tryz.func14,Tryz.ntmps14
 go_wp2_with fail
 refine HSF.out.mono ?_
 rintro e w2 ⟨w0,g,vs,vt,vh2,ve2,vi2,rfl,hb2,hF,hS2⟩
 have HW0:Hid (w.heap.size≤w0.heap.size):=Lib.hid (Nat.le_trans HB0.out.size hb2.size)
 have HF:=Lib.hid hF
 have HB2:=Lib.hid (HB0.out.trans (hb2.mono HB0.out.size))
 have HY2:=Lib.hid (HY0.out.below hb2 HY0.out.lt)
 have HS2:=Lib.hid hS2
 have hb02:=HB2.out.trans (hS2.below.mono HB2.out.size)
 have HTY:=Lib.hid (thatAreThere_any hF hS2 _ l (HLV.out w2 hb02) hll HIN.out)
 clear hb2 hF hS2 hb02 HSF x0 x1 x2 x3 x4 HLV
 go_wp2_with fail
 refine HTY.out.mono ?_
 rintro e w3 ⟨v3,rfl,hb3,hown3⟩
 have HS3:=Lib.hid (HS2.out.keepRow hb3 hown3)
 obtain ⟨A3,cap3,rfl⟩:=own_slice hown3
 have HO3:=Lib.hid hown3
 have HLF:=Lib.hid (left_any HF.out HS3.out _ l hown3 (by omega))
 clear hb3 hown3 HTY HS2
 go_wp2_with fail
 refine HLF.out.mono ?_
 rintro e w4 ⟨rfl,hb4⟩
 have HS4:=Lib.hid (HS3.out.after hb4)
 have HLA:=Lib.hid (leaveAll_any HF.out HS4.out (by rw [HXH.out]; exact HPL.out.1) HX.out (by omega) (leftQ C (bset X0.a C.sts.length) l C.trs.length))
 obtain ⟨Y,hY⟩:∃ Y,lvS C.sts (leftQ C (bset X0.a C.sts.length) l C.trs.length) X0=Y:=⟨_,rfl⟩
 have HYY:=Lib.hid hY
 rw [hY] at HLA
 have HYL:Hid (Lim C.sts.length Y):=Lib.hid (by
  rw [← hY]
  have:=offU_lim (fun s=>(HF.out.acts s).2.1) (leftQ C (bset X0.a C.sts.length) l C.trs.length) (putH_lim HX.out (recU C.sts (leftQ C (bset X0.a C.sts.length) l C.trs.length) X0.a C.sts.length X0.hist)) C.sts.length
  exact this.mono (by omega))
 have HYH:Hid (Y.hist.length=X0.hist.length):=Lib.hid (by
  rw [← hY]
  unfold lvS
  rw [offU_hist]
  exact recU_len ..)
 clear hb4 hY HLF HS3
 go_wp2_with fail
 refine HLA.out.mono ?_
 rintro e w5 ⟨rfl,vh5,ve5,vi5,vo5,hs5⟩
 have HS5:=Lib.hid hs5
 clear hs5 HLA HS4
 have HU:Hid (∀ m,acU C.trs l (m+1) Y=doS (trAt C.trs (l.getD m 0)).acts (acU C.trs l m Y)):=Lib.hid (fun m=>rfl)
 have HUL:Hid (∀ m,Lim (C.sts.length+m) (acU C.trs l m Y)):=Lib.hid (fun m=>acU_lim (fun i=>(HF.out.tacts i).1) HYL.out m)
 have HU0:Hid (acU C.trs l 0 Y=Y):=Lib.hid rfl
 have HUH:Hid (∀ m,(acU C.trs l m Y).hist=Y.hist):=Lib.hid (fun m=>acU_hist C.trs l m Y)
 have HRES:Hid (stpS C l X0=entU C.sts (fun k=>entQ C (acU C.trs l l.length Y).hist l C.trs.length k && !(acU C.trs l l.length Y).a k) C.sts.length (acU C.trs l l.length Y)):=Lib.hid (by rw [← HYY.out]; rfl)
 generalize acU C.trs l=U at *
 clear HYY
 go_wp2_with fail
 go_loopw [27] (fun i wr=>∃ (m:Nat) (vh6 ve6 vi6 vo6:Value),m≤l.length∧i=.int .i64 (m:Int)∧Hid (SeAt w0 (fun k=>if (Value.slice A3 l.length cap3).ownBlock=some k then w3.heap[k]? else none) t g vs vt C wr vh6 ve6 vi6 vo6 (U m Y))) (fun i _=>l.length - (intOf i).toNat)
 case atStart=>exact ⟨0,_,_,_,_,Nat.zero_le _,rfl,Lib.hid (by rw [HU0.out]; exact HS5.out)⟩
 case round =>
  clear HS5 HU0
  obtain ⟨m,vh6,ve6,vi6,vo6,hm,rfl,HSK⟩:=hrel
  obtain ⟨wo,rfl⟩:∃ wo:World,wo=wr:=⟨_,rfl⟩
  have HOK:=Lib.hid (HSK.out.rowKept HO3.out)
  by_cases hlt:m < l.length
  · obtain ⟨_,_,q1,_,q3⟩:=list_of_own HOK.out
    injection q1 with e1 e2 e3
    subst e1
    obtain ⟨bb,oo,hAA,hbl,hc⟩:=q3 m _ (List.getElem?_eq_getElem hlt)
    subst hAA
    have c0:wo.cell? ⟨bb,oo+m,none⟩=some (.int .i64 l[m]):=by have:=hc; unfold IntAt at this; rwa [Nat.mul_one] at this
    have hu:=HU.out m
    have hgd:l.getD m 0=l[m]:=by rw [List.getD_eq_getElem?_getD,List.getElem?_eq_getElem hlt]; rfl
    rw [hgd] at hu
    have htr:=HIN.out l[m] (List.getElem_mem hlt)
    generalize l[m]=x at *
    obtain ⟨k,rfl,hk⟩:=isTr_nat htr
    obtain ⟨b,o,cap',wt,wa,hsl,_,hbl2,htc,hth⟩:=HF.out.has.tra hk
    subst hsl
    obtain ⟨d0,d1,d2,d3,d4,d5⟩:=htc.below HSK.out.below hbl2
    obtain ⟨x0,x1,x2,x3⟩:wo.cell? ⟨g,0,none⟩=some (.pointer (some ⟨t,0,none⟩))∧True∧True∧wo.cell? ⟨g,3,none⟩=some (.slice (some ⟨b,o,none⟩) C.trs.length cap'):=⟨HSK.out.cells.1.1,trivial,trivial,HSK.out.cells.1.2.2.2.1⟩
    have HUK:=Lib.hid hu
    have HDO:=Lib.hid (doM_any HF.out HSK.out (HUL.out m) (by omega) wa (trAt C.trs (k:Int)).acts (hth.2.below HSK.out.below) (HF.out.tacts (k:Int)).1 (HF.out.tacts (k:Int)).2)
    obtain ⟨tgA,tgcap,acA,accap,rfl,rfl⟩:=hth.slices
    clear hc q3 e2 e3 hgd hu htr htc hth x1 x2
    generalize (trAt C.trs (k:Int)).acts.length=al at *
    go_wp2_with fail
    refine HDO.out.mono ?_
    rintro e w6 ⟨rfl,vh7,ve7,vi7,vo7,hs7⟩
    have HS7:=Lib.hid hs7
    clear hs7 c0 d0 d1 d2 d3 d4 d5 x0 x3
    go_wp2_with fail
    go_roundw
    case rel=>exact ⟨m+1,_,_,_,_,by omega,by go_num,Lib.hid (by rw [HUK.out]; exact HS7.out)⟩
    case measure=>simp [intOf]; omega
  · obtain rfl:m=l.length:=by omega
    have HLZ:=Lib.hid (HUL.out l.length)
    have HHZ:=Lib.hid (HUH.out l.length)
    obtain ⟨Z,hZ⟩:∃ Z,U l.length Y=Z:=⟨_,rfl⟩
    rw [hZ] at HSK HLZ HHZ HRES
    have HEN:=Lib.hid (entered_any HF.out HSK.out (by rw [HHZ.out,HYH.out,HXH.out]; exact HPL.out.2) _ l HOK.out (by omega))
    clear HU HUL HUH hZ
    go_wp2_with fail
    refine HEN.out.mono ?_
    rintro e w6 ⟨rfl,hb6⟩
    have HS6:=Lib.hid (HSK.out.after hb6)
    have HEA:=Lib.hid (enterAll_any HF.out HS6.out HLZ.out (by omega) (entQ C Z.hist l C.trs.length))
    clear hb6 HEN
    obtain ⟨R,hR⟩:∃ R,entU C.sts (fun k=>entQ C Z.hist l C.trs.length k && !Z.a k) C.sts.length Z=R:=⟨_,rfl⟩
    rw [hR] at HEA HRES
    clear hR
    go_wp2_with fail
    refine HEA.out.mono ?_
    rintro e w7 ⟨rfl,vh7,ve7,vi7,vo7,hs7⟩
    obtain ⟨hA7,hcap7,rfl⟩:=hs7.rows.hist.slice
    obtain ⟨eA7,ecap7,rfl⟩:=hs7.rows.env.slice
    obtain ⟨iA7,icap7,rfl⟩:=own_slice hs7.rows.ins
    obtain ⟨oA7,ocap7,rfl⟩:=own_slice hs7.rows.out
    have HS7:=Lib.hid hs7.drew
    have HY7:=Lib.hid ((HY2.out.below hs7.below HY2.out.lt).drew)
    have HB7:=Lib.hid ((HB2.out.trans (hs7.below.mono HB2.out.size)).drew)
    have hgne:g ≠ w.heap.size+1:=by have:=hs7.ge; have:=HY2.out.lt; omega
    clear hs7 HEA HS6 HSK HOK
    go_wp2_with fail
    obtain ⟨⟨-,-,-,-,x4⟩,x5,x6,x7,x8,x9⟩:=HS7.out.cells
    obtain ⟨⟨p0,p1,p2,p3,p4⟩,q0,q1,q2,q3,q4⟩:=blk5_facts HY7.out
    refine anyD_start (fun W=>(W.cell? ⟨g,4,none⟩=some (.int .u32 ((bset R.a C.sts.length:Nat):Int))∧W.cell? ⟨g,5,none⟩=some (.slice hA7 R.hist.length hcap7)∧W.cell? ⟨g,6,none⟩=some (.slice eA7 R.env.length ecap7)∧W.cell? ⟨g,7,none⟩=some (.slice iA7 R.ins.length icap7)∧W.cell? ⟨g,8,none⟩=some (.int .i64 R.st))∧W.cell? ⟨g,9,none⟩=some (.slice oA7 R.out.length ocap7)) (fun i=>[].contains i) (by kernel_rfl) ?_
    try simp only [Act.put,sx]
    generalize w7.drew=w8 at *
    refine anyD_t 0 (.pointer (some ⟨g,0,none⟩)) ?_
    try simp only [Act.put,sx]
    refine anyD_t 1 (.pointer (some ⟨g,0,none⟩)) ?_
    try simp only [Act.put,sx]
    refine anyD_t 2 (.pointer (some ⟨g,4,none⟩)) ?_
    try simp only [Act.put,sx]
    refine anyD_l 3 (.agg #[.int .u32 ((bset R.a C.sts.length:Nat):Int),.slice hA7 R.hist.length hcap7,.slice eA7 R.env.length ecap7,.slice iA7 R.ins.length icap7,.int .i64 R.st]) (⟨⟨x4,x5,x6,x7,x8⟩,x9⟩) ?_
    try simp only [Act.put,sx]
    refine anyD_t 4 (.pointer (some ⟨g,0,none⟩)) ?_
    try simp only [Act.put,sx]
    refine anyD_t 5 (.pointer (some ⟨g,0,none⟩)) ?_
    try simp only [Act.put,sx]
    refine anyD_t 6 (.pointer (some ⟨g,9,none⟩)) ?_
    try simp only [Act.put,sx]
    refine anyD_l 7 (.slice oA7 R.out.length ocap7) (⟨⟨x4,x5,x6,x7,x8⟩,x9⟩) ?_
    try simp only [Act.put,sx]
    have hg8:=((((HS7.out.blk.set_ne hgne 0 (.int .u32 ((bset R.a C.sts.length:Nat):Int))).set_ne hgne 1 (.slice hA7 R.hist.length hcap7)).set_ne hgne 2 (.slice eA7 R.env.length ecap7)).set_ne hgne 3 (.slice iA7 R.ins.length icap7)).set_ne hgne 4 (.int .i64 R.st)
    have HG8:=Lib.hid hg8
    clear hg8
    refine anyD_one (i:=8) rfl rfl (by kernel_rfl) (fun K HK=>?_)
    go_simp
    go_simp
    refine HK.out _ _ (fun _ hS=>⟨⟨HG8.out.cell 4,HG8.out.cell 5,HG8.out.cell 6,HG8.out.cell 7,HG8.out.cell 8⟩,HG8.out.cell 9⟩) ?_
    clear HK K
    try simp only [Act.put,sx]
    refine anyD_one (i:=9) rfl rfl (by kernel_rfl) (fun K HK=>?_)
    go_simp
    refine HK.out _ _ (fun _ hS=>hS) ?_
    clear HK K
    try simp only [Act.put,sx]
    refine anyD_done (by kernel_rfl) ?_
    go_wp2_with fail
    have r1:=HS7.out.rows.apart HY7.out (by decide) (by decide) (by decide) (by decide) 0 (.int .u32 ((bset R.a C.sts.length:Nat):Int))
    have k1:=HY7.out.set_ 0 (.int .u32 ((bset R.a C.sts.length:Nat):Int))
    have r2:=r1.apart k1 (by decide) (by decide) (by decide) (by decide) 1 (.slice hA7 R.hist.length hcap7)
    have k2:=k1.set_ 1 (.slice hA7 R.hist.length hcap7)
    have r3:=r2.apart k2 (by decide) (by decide) (by decide) (by decide) 2 (.slice eA7 R.env.length ecap7)
    have k3:=k2.set_ 2 (.slice eA7 R.env.length ecap7)
    have r4:=r3.apart k3 (by decide) (by decide) (by decide) (by decide) 3 (.slice iA7 R.ins.length icap7)
    have k4:=k3.set_ 3 (.slice iA7 R.ins.length icap7)
    have r5:=r4.apart k4 (by decide) (by decide) (by decide) (by decide) 4 (.int .i64 R.st)
    have k5:=k4.set_ 4 (.int .i64 R.st)
    have hb8:=(((((HB7.out.setCell (p:=⟨w.heap.size+1,0,none⟩) (Nat.le_succ _) (.int .u32 ((bset R.a C.sts.length:Nat):Int))).setCell (p:=⟨w.heap.size+1,1,none⟩) (Nat.le_succ _) (.slice hA7 R.hist.length hcap7)).setCell (p:=⟨w.heap.size+1,2,none⟩) (Nat.le_succ _) (.slice eA7 R.env.length ecap7)).setCell (p:=⟨w.heap.size+1,3,none⟩) (Nat.le_succ _) (.slice iA7 R.ins.length icap7)).setCell (p:=⟨w.heap.size+1,4,none⟩) (Nat.le_succ _) (.int .i64 R.st))
    refine bodyPost_ret (results_two rfl _ _ _ rfl (load_run k5)) rfl ?_
    rw [HRES.out]
    exact ⟨hb8,_,_,rfl,_,_,_,rfl,r5.lower HW0.out⟩
end Go.Proofs.YtgofpbdbeegoeaaGreatDoor
