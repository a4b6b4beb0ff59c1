/- The contracts of micro's record and leaveAll. -/
import Derived.Test.YtmhkpjcdkjnlnaaGreatDoorFUMtk
import Derived.Lib.AppendZerosOnto
import Derived.Test.YtmhkpjcdkjnlnaaGreatDoorFUImem
namespace Go.Proofs.YtmhkpjcdkjnlnaaGreatDoor
open Go.ChangeShapes Go.WideShapes Go.ChangeAt Go.RowKit
set_option linter.unusedVariables false

section
variable {w0:World} {M:Nat→Option Obj} {t g:Nat} {vs vt:Value} {C:Ch} {w:World} {vh ve vi vo:Value} {X:Se}
theorem putH_same (X:Se):X.putH X.hist=X:=rfl
theorem hist_par {C:Ch} (hT:Tame C.sts) {k:Nat} (hk:k < C.sts.length) (hh:histB (stAt C.sts (k:Int)).kind=true):∃ q:Nat,(stAt C.sts (k:Int)).par=(q:Int)∧q < C.sts.length:=by
 have:=(isSt_iff.1 (hpar_of hT (k:Int) (isSt_of hk) hh).1)
 exact ⟨(stAt C.sts (k:Int)).par.toNat,by omega,by omega⟩
set_option maxHeartbeats 4000000 in
set_option maxRecDepth 100000 in
theorem record_any (hF:Fx w0 t vs vt C) (hS:SeAt w0 M t g vs vt C w vh ve vi vo X) (hHn:C.sts.length≤X.hist.length) (Q:Nat→Bool) :
 Calls Tryz.prog 194 #[.pointer (some ⟨g,0,none⟩),.int .u32 ((bset Q C.sts.length:Nat):Int)] w (SPost w0 M t g vs vt C (X.putH (recU C.sts Q X.a C.sts.length X.hist))):=by
 have hlen:=hF.tame.len
 have hta:=hF.tame
 obtain ⟨sA,scap,tA,tcap,rfl,rfl⟩:=hF.has.slices
 have HS:=Lib.hid hS
 have HF:=Lib.hid hF
 have HT:=Lib.hid hta
 obtain ⟨⟨x0,x1,x2,x3,x4⟩,-⟩:=hS.cells
 have HN:Hid (∀ m,C.sts.length≤(recU C.sts Q X.a m X.hist).length):=Lib.hid (fun m=>by rw [recU_len]; exact hHn)
 have HU:Hid (∀ m,recU C.sts Q X.a (m+1) X.hist=if histB (stAt C.sts (m:Int)).kind=true∧Q (stAt C.sts (m:Int)).par.toNat=true then (recU C.sts Q X.a m X.hist).set m (bset (actP C.sts X.a (m:Int)) C.sts.length) else recU C.sts Q X.a m X.hist):=Lib.hid (fun m=>rfl)
 have HU0:Hid (recU C.sts Q X.a 0 X.hist=X.hist):=Lib.hid rfl
 generalize recU C.sts Q X.a=U at *
 clear hF hS hta hHn
 go_enter Tryz.func194,Tryz.ntmps194
 go_wp2_with fail
 go_loopw [12] (fun i wr=>∃ (k:Nat) (vh2 ve2 vi2 vo2:Value),k≤C.sts.length∧i=.int .i64 (k:Int)∧Hid (SeAt w0 M t g (.slice sA C.sts.length scap) (.slice tA C.trs.length tcap) C wr vh2 ve2 vi2 vo2 (X.putH (U k X.hist)))) (fun i _=>C.sts.length - (intOf i).toNat)
 case atStart=>exact ⟨0,_,_,_,_,Nat.zero_le _,rfl,Lib.hid (by rw [HU0.out,putH_same]; exact HS.out)⟩
 case round =>
  clear HS HU0 x0 x1 x2 x3 x4
  obtain ⟨k,vh2,ve2,vi2,vo2,hk,rfl,HSK⟩:=hrel
  obtain ⟨wo,rfl⟩:∃ wo:World,wo=wr:=⟨_,rfl⟩
  have hu:=HU.out k
  by_cases hlt:k < C.sts.length
  · obtain ⟨b,o,cap',ui,ue,ux,hsl,_,hbl,hst,hhas⟩:=HF.out.has.st hlt
    injection hsl with e1 e2 e3
    subst e1
    obtain ⟨c0,c1,c2,c3,c4⟩:=hst.below HSK.out.below hbl
    obtain ⟨iA,icap,eA,ecap,xA,xcap,rfl,rfl,rfl⟩:=hhas.slices
    have HSB:=Lib.hid (HSK.out.after (below_box wo (stBox (stAt C.sts (k:Int)).kind (stAt C.sts (k:Int)).par (.slice iA (stAt C.sts (k:Int)).ini.length icap) (.slice eA (stAt C.sts (k:Int)).ent.length ecap) (.slice xA (stAt C.sts (k:Int)).exi.length xcap)))).drew
    have HBX:=Lib.hid (Blk.new wo 63 #[.int .i64 (stAt C.sts (k:Int)).kind,.int .i64 (stAt C.sts (k:Int)).par,.slice iA (stAt C.sts (k:Int)).ini.length icap,.slice eA (stAt C.sts (k:Int)).ent.length ecap,.slice xA (stAt C.sts (k:Int)).exi.length xcap]).drew
    have HAF:=Lib.hid (activeFor_any HF.out HSB.out k iA eA xA (stAt C.sts (k:Int)).ini.length icap (stAt C.sts (k:Int)).ent.length ecap (stAt C.sts (k:Int)).exi.length xcap)
    have HHB:=Lib.hid (isHistM_any (stAt C.sts (k:Int)).kind)
    cases hh:histB (stAt C.sts (k:Int)).kind with
    | false =>
     rw [hh,if_neg (by simp)] at hu
     rw [hh] at HHB
     have HUK:=Lib.hid hu
     have HSA:=Lib.hid (HSK.out.after (below_box wo (stBox (stAt C.sts (k:Int)).kind (stAt C.sts (k:Int)).par (.slice iA (stAt C.sts (k:Int)).ini.length icap) (.slice eA (stAt C.sts (k:Int)).ent.length ecap) (.slice xA (stAt C.sts (k:Int)).exi.length xcap))))
     generalize (stAt C.sts (k:Int)).kind=K at *
     generalize (stAt C.sts (k:Int)).par=P at *
     clear hst hhas e2 e3 hu hh HAF HSB
     go_wp2_with fail
     refine (HHB.out _).mono ?_
     rintro e w2 ⟨rfl,rfl⟩
     go_wp2_with fail
     go_roundw
     case rel=>exact ⟨k+1,_,_,_,_,by omega,by go_num,Lib.hid (by rw [HUK.out]; exact HSA.out)⟩
     case measure=>simp [intOf]; omega
    | true =>
     obtain ⟨q,hq,hql⟩:=hist_par HT.out hlt hh
     rw [hh,hq] at hu
     rw [hh] at HHB
     have hqn:(((q:Nat):Int)).toNat=q:=by simp
     rw [hqn] at hu
     have hne:=(and_test Q C.sts.length q (by omega) hql).2
     cases hQ:Q q with
     | false =>
      rw [hQ,if_neg (by simp)] at hu
      rw [hQ] at hne
      have HUK:=Lib.hid hu
      have HSA:=Lib.hid (HSK.out.after (below_box wo (stBox (stAt C.sts (k:Int)).kind (stAt C.sts (k:Int)).par (.slice iA (stAt C.sts (k:Int)).ini.length icap) (.slice eA (stAt C.sts (k:Int)).ent.length ecap) (.slice xA (stAt C.sts (k:Int)).exi.length xcap))))
      rw [hq] at c1 HSA
      clear hst hhas e2 e3 hu hh HAF HSB hQ HBX hqn
      go_wp2_with fail
      refine (HHB.out _).mono ?_
      rintro e w2 ⟨rfl,rfl⟩
      go_wp2_with fail
      refine (bitM_any q (by omega) _).mono ?_
      rintro e w2 ⟨rfl,rfl⟩
      go_wp2_with fail
      go_roundw
      case rel=>exact ⟨k+1,_,_,_,_,by omega,by go_num,Lib.hid (by rw [HUK.out]; exact HSA.out)⟩
      case measure=>simp [intOf]; omega
     | true =>
      rw [hQ,if_pos ⟨rfl,rfl⟩] at hu
      rw [hQ] at hne
      have HUK:=Lib.hid hu
      rw [hq] at c1 HSB HBX HAF
      have hNk:=HN.out k
      have hkl:k < (X.putH (U k X.hist)).hist.length:=by show k < (U k X.hist).length; omega
      obtain ⟨hB,hcap,cur,rfl,hle,hge,hblk,hc0,hf0⟩:=HSB.out.rows.hist.place hkl
      have HBK:=Lib.hid hblk
      have HGE:=Lib.hid hge
      have HNL:Hid (bset (actP C.sts X.a (k:Int)) C.sts.length < 4294967296):=Lib.hid (bset_u32 _ (by omega))
      obtain ⟨⟨y0,y1,y2,y3,y4⟩,-⟩:=blk5_facts HBX.out
      have y5:=HSB.out.cells.2.1
      clear hst hhas e2 e3 hu hh hQ hqn hc0 hf0 hblk hge hNk
      go_wp2_with fail
      refine (HHB.out _).mono ?_
      rintro e w2 ⟨rfl,rfl⟩
      go_wp2_with fail
      refine (bitM_any q (by omega) _).mono ?_
      rintro e w2 ⟨rfl,rfl⟩
      go_wp2_with fail
      refine anyD_start (fun W=>W.cell? ⟨g,5,none⟩=some (.slice (some ⟨hB,0,none⟩) (X.putH (U k X.hist)).hist.length hcap)∧(W.cell? ⟨wo.heap.size,0,none⟩=some (.int .i64 (stAt C.sts (k:Int)).kind)∧W.cell? ⟨wo.heap.size,1,none⟩=some (.int .i64 (q:Int))∧W.cell? ⟨wo.heap.size,2,none⟩=some (.slice iA (stAt C.sts (k:Int)).ini.length icap)∧W.cell? ⟨wo.heap.size,3,none⟩=some (.slice eA (stAt C.sts (k:Int)).ent.length ecap)∧W.cell? ⟨wo.heap.size,4,none⟩=some (.slice xA (stAt C.sts (k:Int)).exi.length xcap))) (fun i=>[10].contains i) (by kernel_rfl) ?_
      try simp only [Act.put,sx]
      generalize (wo.alloc (.cells #[.int .i64 (stAt C.sts (k:Int)).kind,.int .i64 (q:Int),.slice iA (stAt C.sts (k:Int)).ini.length icap,.slice eA (stAt C.sts (k:Int)).ent.length ecap,.slice xA (stAt C.sts (k:Int)).exi.length xcap] 63)).drew=w1 at *
      refine anyD_t 0 (.pointer (some ⟨g,0,none⟩)) ?_
      try simp only [Act.put,sx]
      refine anyD_t 1 (.pointer (some ⟨g,0,none⟩)) ?_
      try simp only [Act.put,sx]
      refine anyD_t 2 (.pointer (some ⟨g,4,none⟩)) ?_
      try simp only [Act.put,sx]
      refine anyD_t 3 (.pointer (some ⟨g,5,none⟩)) ?_
      try simp only [Act.put,sx]
      refine anyD_l 4 (.slice (some ⟨hB,0,none⟩) (X.putH (U k X.hist)).hist.length hcap) (⟨y5,y0,y1,y2,y3,y4⟩) ?_
      try simp only [Act.put,sx]
      refine anyD_t 5 (.int .i64 (k:Int)) ?_
      try simp only [Act.put,sx]
      refine anyD_t 6 (.pointer (some ⟨g,0,none⟩)) ?_
      try simp only [Act.put,sx]
      refine anyD_l 7 (.agg #[.int .i64 (stAt C.sts (k:Int)).kind,.int .i64 (q:Int),.slice iA (stAt C.sts (k:Int)).ini.length icap,.slice eA (stAt C.sts (k:Int)).ent.length ecap,.slice xA (stAt C.sts (k:Int)).exi.length xcap]) (⟨y5,y0,y1,y2,y3,y4⟩) ?_
      try simp only [Act.put,sx]
      refine anyD_one (i:=8) rfl rfl (by kernel_rfl) (fun K HK=>?_)
      go_simp
      refine HAF.out.mono ?_
      rintro e w3 ⟨rfl,hb3⟩
      have HS3:=Lib.hid (HSB.out.after hb3)
      have HBK3:=Lib.hid (HBK.out.below hb3 HBK.out.lt)
      obtain ⟨⟨z0,z1,z2,z3,z4⟩,-⟩:=blk5_facts (HBX.out.below hb3 HBX.out.lt)
      have z5:=HS3.out.cells.2.1
      have r0:=HBK3.out.cell k
      have f0:=HBK3.out.frozen k
      clear hb3
      go_simp
      refine HK.out _ _ (fun _ hS=>⟨z5,z0,z1,z2,z3,z4⟩) ?_
      clear HK K
      try simp only [Act.put,sx]
      refine anyD_t 9 (.pointer (some ⟨hB,k,none⟩)) ?_
      try simp only [Act.put,sx]
      obtain ⟨hB2,hcap2,cur2,hv2,-,-,-,hc1,hf1⟩:=HS3.out.rows.hist.place hkl
      injection hv2 with e1 e2 e3
      injection e1 with e1
      injection e1 with e1 e4
      subst e1
      have HS4:=Lib.hid (HS3.out.putHist HBK3.out HGE.out hkl HNL.out)
      clear r0 f0 e2 e3 e4
      refine anyD_one (i:=10) rfl rfl (by kernel_rfl) (fun K HK=>?_)
      go_simp
      go_simp
      refine HK.out _ _ (fun h=>absurd h (by decide)) ?_
      clear HK K
      try simp only [Act.put,sx]
      refine anyD_done (by kernel_rfl) ?_
      go_wp2_with fail
      go_roundw
      case rel=>exact ⟨k+1,_,_,_,_,by omega,by go_num,Lib.hid (by rw [HUK.out]; exact HS4.out)⟩
      case measure=>simp [intOf]; omega
  · obtain rfl:k=C.sts.length:=by omega
    go_wp2_with fail
    go_end0
    exact .of rfl rfl HSK.out
theorem bset_one {n k:Nat} (hk:k < n):bset (fun j=>decide (j=k)) n=2 ^ k:=by
 refine Nat.eq_of_testBit_eq fun i=>?_
 rw [bset_test,Nat.testBit_two_pow]
 by_cases hik:i=k
 · subst hik; simp [hk]
 · have h1:decide (k=i)=false:=by simpa using Ne.symm hik
   rw [h1]
   simp [hik]
theorem andNot_one (P:Nat→Bool) {n k:Nat} (hn:n≤31) (hk:k < n):bits .andNot .u32 ((bset P n:Nat):Int) ((2:Int) ^ k)=((bset (fun j=>P j && decide (j ≠ k)) n:Nat):Int):=by
 have h2:((2:Int) ^ k)=((bset (fun j=>decide (j=k)) n:Nat):Int):=by rw [bset_one hk]; simp
 rw [h2,andNot_sets P _ n hn]
 congr 1
 refine bset_congr n fun j _=>?_
 by_cases hjk:j=k <;> simp [hjk]
set_option maxHeartbeats 4000000 in
set_option maxRecDepth 100000 in
theorem leaveAll_any (hF:Fx w0 t vs vt C) (hS:SeAt w0 M t g vs vt C w vh ve vi vo X) (hHn:C.sts.length≤X.hist.length) {n:Nat} (hX:Lim n X) (hn:n≤8000) (Q:Nat→Bool) :
 Calls Tryz.prog 169 #[.pointer (some ⟨g,0,none⟩),.int .u32 ((bset Q C.sts.length:Nat):Int)] w (SPost w0 M t g vs vt C (lvS C.sts Q X)):=by
 have hlen:=hF.tame.len
 have HRC:=Lib.hid (record_any hF hS hHn Q)
 obtain ⟨sA,scap,tA,tcap,rfl,rfl⟩:=hF.has.slices
 have HF:=Lib.hid hF
 have HR:Hid (lvS C.sts Q X=offU C.sts Q C.sts.length (X.putH (recU C.sts Q X.a C.sts.length X.hist))):=Lib.hid rfl
 have HX:=Lib.hid (putH_lim hX (recU C.sts Q X.a C.sts.length X.hist))
 obtain ⟨Y,hY⟩:∃ Y,X.putH (recU C.sts Q X.a C.sts.length X.hist)=Y:=⟨_,rfl⟩
 rw [hY] at HRC HR HX
 have HU:Hid (∀ d,offU C.sts Q (d+1) Y=if Q (C.sts.length - 1 - d)=true then offS C.sts (C.sts.length - 1 - d) (offU C.sts Q d Y) else offU C.sts Q d Y):=Lib.hid fun d=>rfl
 have HUL:Hid (∀ d,Lim (n+d) (offU C.sts Q d Y)):=Lib.hid fun d=>offU_lim (fun s=>(hF.acts s).2.1) Q HX.out d
 have HU0:Hid (offU C.sts Q 0 Y=Y):=Lib.hid rfl
 rw [HR.out]
 generalize offU C.sts Q=U at *
 clear hF hS hX hY HR hHn
 go_enter Tryz.func169,Tryz.ntmps169
 go_wp2_with fail
 refine HRC.out.mono ?_
 rintro e w1 ⟨rfl,vh1,ve1,vi1,vo1,hs1⟩
 have HS1:=Lib.hid hs1
 obtain ⟨⟨x0,x1,x2,x3,x4⟩,-⟩:=hs1.cells
 clear hs1
 have hsub:IntKind.i64.wrap ((C.sts.length:Int) - 1)=(C.sts.length:Int) - 1:=by rw [IntKind.wrap_i64]; omega
 go_wp2_with fail
 go_loopw [4] (fun i wr=>∃ (d:Nat) (vh2 ve2 vi2 vo2:Value),d≤C.sts.length∧i=.int .i64 ((C.sts.length:Int) - 1 - (d:Int))∧Hid (SeAt w0 M t g (.slice sA C.sts.length scap) (.slice tA C.trs.length tcap) C wr vh2 ve2 vi2 vo2 (U d Y))) (fun i _=>(intOf i+1).toNat)
 case atStart=>exact ⟨0,_,_,_,_,Nat.zero_le _,by go_num,Lib.hid (by rw [HU0.out]; exact HS1.out)⟩
 case round =>
  clear HS1 HU0 x0 x1 x2 x3 x4 hsub
  obtain ⟨d,vh2,ve2,vi2,vo2,hd,rfl,HSK⟩:=hrel
  obtain ⟨wo,rfl⟩:∃ wo:World,wo=wr:=⟨_,rfl⟩
  have hu:=HU.out d
  by_cases hlt:d < C.sts.length
  · obtain ⟨k,hk⟩:∃ k,C.sts.length - 1 - d=k:=⟨_,rfl⟩
    have hkl:k < C.sts.length:=by omega
    have e1:(C.sts.length:Int) - 1 - (d:Int)=(k:Int):=by omega
    rw [e1]
    rw [hk] at hu
    have HK:=Lib.hid hk
    have HDL:=Lib.hid hlt
    have hge:decide (0≤(k:Int))=true:=by simp
    have hne:=(and_test Q C.sts.length k (by omega) hkl).2
    have HLK:=Lib.hid (HUL.out d)
    obtain ⟨⟨x0,x1,x2,x3,x4⟩,-⟩:=HSK.out.cells
    have hnx:IntKind.i64.wrap ((k:Int) - 1)=(k:Int) - 1:=by rw [IntKind.wrap_i64]; omega
    cases hq:Q k with
    | false =>
     rw [hq,if_neg (by simp)] at hu
     rw [hq] at hne
     have HUK:=Lib.hid hu
     clear hq hu hk hlt e1
     go_wp2_with fail
     refine (bitM_any k (by omega) _).mono ?_
     rintro e w2 ⟨rfl,rfl⟩
     go_wp2_with fail
     go_roundw
     case rel=>exact ⟨d+1,_,_,_,_,by have:=HDL.out; omega,by have:=HK.out; have:=HDL.out; congr 1; omega,Lib.hid (by rw [HUK.out]; exact HSK.out)⟩
     case measure=>simp [intOf]
    | true =>
     rw [hq,if_pos rfl] at hu
     rw [hq] at hne
     have HUK:=Lib.hid hu
     obtain ⟨b,o,cap',ui,ue,ux,hsl,_,hbl,hst,hhas⟩:=HF.out.has.st hkl
     injection hsl with e4 e5 e6
     subst e4
     obtain ⟨c0,c1,c2,c3,c4⟩:=hst.below HSK.out.below hbl
     obtain ⟨iA,icap,eA,ecap,xA,xcap,rfl,rfl,rfl⟩:=hhas.slices
     have HDO:=Lib.hid (doM_any HF.out HSK.out HLK.out (by omega) _ (stAt C.sts (k:Int)).exi (hhas.2.2.below HSK.out.below) (HF.out.acts (k:Int)).2.1 (HF.out.acts (k:Int)).2.2)
     obtain ⟨Z,hZ⟩:∃ Z,U d Y=Z:=⟨_,rfl⟩
     rw [hZ] at HSK HLK HDO HUK x4
     have HA:Hid ((doS (stAt C.sts (k:Int)).exi Z).a=Z.a):=Lib.hid rfl
     have hff:(fun j=>Z.a j && decide (j ≠ k))=fun j=>Z.a j && !decide (j=k):=by funext j; simp
     have HOF:Hid (offS C.sts k Z=(doS (stAt C.sts (k:Int)).exi Z).putA fun j=>Z.a j && !decide (j=k)):=Lib.hid (by rw [← hff]; rfl)
     have han:=andNot_one Z.a (n:=C.sts.length) (k:=k) (by omega) hkl
     rw [hff] at han
     have HAN:=Lib.hid han
     clear hff han
     generalize (stAt C.sts (k:Int)).exi.length=xl at *
     clear hq hu hk hlt e1 hst hhas e5 e6 hZ
     go_wp2_with fail
     refine (bitM_any k (by omega) _).mono ?_
     rintro e w2 ⟨rfl,rfl⟩
     go_wp2_with fail
     refine HDO.out.mono ?_
     rintro e w3 ⟨rfl,vh3,ve3,vi3,vo3,hs3⟩
     have HS3:=Lib.hid hs3
     clear hs3 x0 x1 x2 x3 x4 c0 c1 c2 c3 c4
     have y4:=HS3.out.drew.cells.1.2.2.2.2
     have z4:=HS3.out.drew.froz.1
     rw [HA.out] at y4
     have HS3D:=Lib.hid HS3.out.drew
     go_wp2_with fail
     refine anyD_start (fun W=>W.cell? ⟨g,4,none⟩=some (.int .u32 ((bset Z.a C.sts.length:Nat):Int))) (fun i=>[11].contains i) (by kernel_rfl) ?_
     try simp only [Act.put,sx]
     generalize w3.drew=w4 at *
     refine anyD_t 0 (.pointer (some ⟨g,0,none⟩)) ?_
     try simp only [Act.put,sx]
     refine anyD_t 1 (.pointer (some ⟨g,0,none⟩)) ?_
     try simp only [Act.put,sx]
     refine anyD_t 2 (.pointer (some ⟨g,4,none⟩)) ?_
     try simp only [Act.put,sx]
     refine anyD_t 3 (.pointer (some ⟨g,4,none⟩)) ?_
     try simp only [Act.put,sx]
     refine anyD_l 4 (.int .u32 ((bset Z.a C.sts.length:Nat):Int)) (y4) ?_
     try simp only [Act.put,sx]
     refine anyD_t 5 (.int .i64 (k:Int)) ?_
     try simp only [Act.put,sx]
     refine anyD_one (i:=6) rfl rfl (by kernel_rfl) (fun K HK=>?_)
     go_simp
     refine (bitM_any k (by omega) _).mono ?_
     rintro e w5 ⟨rfl,rfl⟩
     go_simp
     refine HK.out _ _ (fun _ hS=>y4) ?_
     clear HK K
     try simp only [Act.put,sx]
     refine anyD_one (i:=7) rfl rfl (by kernel_rfl) (fun K HK=>?_)
     go_simp
     rw [HAN.out]
     refine HK.out _ _ (fun _ hS=>y4) ?_
     clear HK K
     try simp only [Act.put,sx]
     refine anyD_t 8 (.pointer (some ⟨g,0,none⟩)) ?_
     try simp only [Act.put,sx]
     refine anyD_t 9 (.pointer (some ⟨g,4,none⟩)) ?_
     try simp only [Act.put,sx]
     refine anyD_t 10 (.pointer (some ⟨g,4,none⟩)) ?_
     try simp only [Act.put,sx]
     refine anyD_one (i:=11) rfl rfl (by kernel_rfl) (fun K HK=>?_)
     go_simp
     go_simp
     refine HK.out _ _ (fun h=>absurd h (by decide)) ?_
     clear HK K
     try simp only [Act.put,sx]
     refine anyD_done (by kernel_rfl) ?_
     have HS4:=Lib.hid (HS3D.out.putA fun j=>Z.a j && !decide (j=k))
     go_wp2_with fail
     go_roundw
     case rel=>exact ⟨d+1,_,_,_,_,by have:=HDL.out; omega,by have:=HK.out; have:=HDL.out; congr 1; omega,Lib.hid (by rw [HUK.out,HOF.out]; exact HS4.out)⟩
     case measure=>simp [intOf]
  · obtain rfl:d=C.sts.length:=by omega
    have hge:decide (0≤(C.sts.length:Int) - 1 - (C.sts.length:Int))=false:=decide_eq_false (by omega)
    go_wp2_with fail
    go_end0
    exact .of rfl rfl HSK.out
end

theorem size_zeros (z:Array Value) (m:Nat):(Builtin.zeroCells z m).toList.length=m * z.size:=by rw [Array.length_toList,size_zeroCells]
theorem own_new {w:World} {base cap n:Nat} {e:TypeId} {size:Nat} {xs:List Value} {rest:Array Value} (hb:base≤w.heap.size) (hx:xs.length=n * size) (hr:rest.size=(cap - n) * size) (hnc:n≤cap) (hcm:cap≤maxLen) :
 (w.drew.alloc (.cells (xs.toArray ++ rest) e)).ownsRow base e size (.slice (some ⟨w.heap.size,0,none⟩) n cap) n xs:=by
 refine ⟨hx,.inr ⟨w.heap.size,cap,_,rfl,hb,heap_alloc_new w.drew _,hnc,hcm,?_,?_⟩⟩
 · rw [Array.size_append,List.size_toArray,hx,hr,← Nat.add_mul]
   congr 1
   omega
 · rw [Array.toList_append,← hx]
   exact List.take_left
theorem own_grown_new (w:World) (o:Obj) (row:Option Nat):w.grownBy (w.drew.alloc o) row:=⟨rfl,rfl,rfl,by simp,fun k hk _=>heap_alloc_old w.drew o hk⟩
theorem run_append_zeros {P:Program} (w:World) (base:Nat) (t tn ty e:TypeId) (i:TypeInfo) (z:Value) (kq kn:IntKind) (size bytes:Nat) (ht:P.underlying t=some (.slice e)) (htn:P.underlying tn=some (.int kn)) (hi:P.info? e=some i) (hz:i.zero=some z)
 (hsize:i.size=size) (hby:i.bytes=bytes) (hzs:z.cells.size=size) (hsz:0 < size) (hone:∀ m,∀ u ∈ (Builtin.zeroCells z.cells m).toList,u.oneCell'=true)
 (v:Value) (n:Nat) (xs:List Value) (hown:w.ownsRow base e size v n xs) (m:Nat) (h63:n+m≤maxLen) (hbytes:(n+m) * bytes≤140737488355328) (hbase:base≤w.heap.size) :
 ∃ v' w',(Builtin.append_ #[t,tn] ty #[v,.int kq (m:Int)]).run P w=.ok v' w'∧w'.ownsRow base e size v' (n+m) (xs ++ (Builtin.zeroCells z.cells m).toList)∧w.grownBy w' v.ownBlock∧(v'.ownBlock=v.ownBlock ∨ v'.ownBlock=some w.heap.size):=by
 subst hsize
 subst hby
 have h64:n+m≤9223372036854775807:=by have:=h63; simp only [maxLen] at this; omega
 have hzl:=size_zeros z.cells m
 rw [hzs] at hzl
 have hlen:(xs ++ (Builtin.zeroCells z.cells m).toList).length=(n+m) * i.size:=by rw [List.length_append,hown.1,hzl,Nat.add_mul]
 have hle:m * i.bytes≤(n+m) * i.bytes:=Nat.mul_le_mul_right _ (by omega)
 have hw:IntKind.i64.wrap (m:Int)=m:=by rw [IntKind.wrap_i64]; omega
 by_cases hm:m=0
 · subst hm
   have hzn:(Builtin.zeroCells z.cells 0).toList=[]:=List.eq_nil_of_length_eq_zero (by rw [hzl]; omega)
   rw [hzn,List.append_nil]
   refine ⟨v,w,?_,by simpa using hown,⟨rfl,rfl,rfl,Nat.le_refl _,fun _ _ _=>rfl⟩,.inl rfl⟩
   rcases hown.2 with ⟨rfl,rfl⟩ | ⟨g,cap,cur,rfl,_,_,hnc,_⟩
   · simp [Builtin.append_,run_underlying ht,run_underlying htn,sizeOf,typeInfo,hi,asInt,asIntOf,IntKind.wrap,go_sem]
   · simp [Builtin.append_,run_underlying ht,run_underlying htn,sizeOf,typeInfo,hi,asInt,asIntOf,IntKind.wrap,hnc,storeCells,go_sem]
 · rcases hown.2 with ⟨rfl,rfl⟩ | ⟨g,cap,cur,rfl,hbg,hg,hnc,hcm,hcs,htake⟩
   · have hx:xs=[]:=List.eq_nil_of_length_eq_zero (by simpa using hown.1)
     subst hx
     have hr:=Lib.run_append_nil_zeros (P:=P) w t tn ty e i z kq kn ht htn hi hz m (by omega) hsz (by omega) (by omega)
     refine ⟨_,_,hr,?_,own_grown_new w _ _,.inr rfl⟩
     have:=own_new (w:=w) (base:=base) (e:=e) (size:=i.size) (n:=m) (cap:=grownCap w m 0 e) (xs:=(Builtin.zeroCells z.cells m).toList) (rest:=Builtin.zeroCells z.cells (grownCap w m 0 e - m)) hbase hzl (by rw [size_zeroCells,hzs]) (grownCap_ge w m 0 e) (grownCap_le_maxLen w m 0 e (by omega))
     simpa using this
   · by_cases hroom:n+m≤cap
     · have hfit:n * i.size+(Builtin.zeroCells z.cells m).toList.length≤cur.size:=by rw [hzl,hcs,← Nat.add_mul]; exact Nat.mul_le_mul_right _ hroom
       have hst:=run_storeCells_at P g (n * i.size) e (Builtin.zeroCells z.cells m).toList 0 cur w hg (by simpa using hfit) (hone m)
       simp only [Nat.add_zero] at hst
       have hns:¬ (m * i.size=0):=Nat.mul_ne_zero hm (by omega)
       have hneg:¬ ((m:Int) < 0):=by omega
       have hb2:¬ (281474976710656 < (m:Int) * (i.bytes:Int)):=by
        rw [← Int.natCast_mul]
        omega
       have hr:(Builtin.append_ #[t,tn] ty #[.slice (some ⟨g,0,none⟩) n cap,.int kq (m:Int)]).run P w=.ok (.slice (some ⟨g,0,none⟩) (n+m) cap) (w.setRow g (cur.toList.take (n * i.size) ++ (Builtin.zeroCells z.cells m).toList ++ cur.toList.drop (n * i.size+(Builtin.zeroCells z.cells m).toList.length)).toArray):=by
        simp [Builtin.append_,run_underlying ht,run_underlying htn,sizeOf,typeInfo,zeroValue,hi,hz,asInt,asIntOf,hw,hneg,hns,hb2,hroom,Addr.add_lit]
        have hst':=hst
        simp at hst'
        rw [hst']
        rfl
       refine ⟨_,_,hr,⟨hlen,.inr ⟨g,cap,_,rfl,hbg,setRow_heap w g cur _ e _ hg,hroom,hcm,?_,?_⟩⟩,⟨rfl,rfl,rfl,by simp,fun k _ hk=>setRow_other w g k _ (fun e=>hk (by simp [Value.ownBlock,e]))⟩,.inl rfl⟩
       · simp only [List.size_toArray,List.length_append,List.length_take,List.length_drop,Array.length_toList] at hfit ⊢
         omega
       · rw [htake,← hlen]
         exact List.take_left
     · have holds:∀ j u,xs[j]?=some u→w.drew.cell? ((⟨g,0,none⟩:Addr).add j)=some u:=hown.cells (g:=g) rfl
       have hf:=run_firstCells_some (P:=P) w.drew i.size n ⟨g,0,none⟩ n cap xs hown.1 holds
       have hr:=Lib.run_append_grow_zeros (P:=P) w t tn ty e i z kq kn ht htn hi hz (some ⟨g,0,none⟩) n cap xs hf m (by omega) hsz (by omega) (by omega) (by omega) (growslice_fits (by omega) hbytes)
       refine ⟨_,_,hr,?_,own_grown_new w _ _,.inr rfl⟩
       have:=own_new (w:=w) (base:=base) (e:=e) (size:=i.size) (n:=n+m) (cap:=grownCap w (n+m) cap e) (xs:=xs ++ (Builtin.zeroCells z.cells m).toList) (rest:=Builtin.zeroCells z.cells (grownCap w (n+m) cap e - (n+m))) hbase hlen (by rw [size_zeroCells,hzs]) (grownCap_ge w (n+m) cap e) (grownCap_le_maxLen w (n+m) cap e h63)
       have he:(xs ++ (Builtin.zeroCells z.cells m).toList).toArray ++ Builtin.zeroCells z.cells (grownCap w (n+m) cap e - (n+m))=xs.toArray ++ Builtin.zeroCells z.cells m ++ Builtin.zeroCells z.cells (grownCap w (n+m) cap e - (n+m)):=by
        apply Array.ext'
        simp
       rw [he] at this
       exact this
theorem wpList_append_zeros {P:Program} {w:World} {ops:Array Oper} {rest:List Oper} {o:Oper} {a:Act} {Q:Exit→Act→World→Prop} (hgd:o.guard=none) (s x:Operand) (t tn:TypeId)
 (ho:o.op=.call { callee:=.builtin .append,args:=#[s,x],argTypes:=#[t,tn] })
 (base:Nat) (e:TypeId) (i:TypeInfo) (z:Value) (kq kn:IntKind) (size bytes:Nat) (ht:P.underlying t=some (.slice e)) (htn:P.underlying tn=some (.int kn)) (hi:P.info? e=some i) (hz:i.zero=some z)
 (hsize:i.size=size) (hby:i.bytes=bytes) (hzs:z.cells.size=size) (hsz:0 < size) (hone:∀ m,∀ u ∈ (Builtin.zeroCells z.cells m).toList,u.oneCell'=true)
 (v:Value) (n:Nat) (xs:List Value) (hs:a.eval s=v) (hown:w.ownsRow base e size v n xs) (m:Nat) (hx:a.eval x=.int kq (m:Int))
 (h63:n+m≤maxLen) (hbytes:(n+m) * bytes≤140737488355328) (hbase:base≤w.heap.size)
 (h:∀ v' w',w'.ownsRow base e size v' (n+m) (xs ++ (Builtin.zeroCells z.cells m).toList)→w.grownBy w' v.ownBlock→(v'.ownBlock=v.ownBlock ∨ v'.ownBlock=some w.heap.size)→wpList P ops Q rest (a.put o.dst v') w'):wpList P ops Q (o :: rest) a w:=by
 obtain ⟨v',w',hr,h2,h3,h4⟩:=run_append_zeros (P:=P) w base t tn o.type e i z kq kn size bytes ht htn hi hz hsize hby hzs hsz hone v n xs hown m h63 hbytes hbase
 exact Lib.wpList_append_run w hgd s x t tn ho v _ hs hx v' w' hr (h v' w' h2 h3 h4)
theorem zeros_u32 (m:Nat):(Builtin.zeroCells (Value.int .u32 0).cells m).toList=(List.replicate m 0).flatMap u32Cells:=by
 have h1:(Builtin.zeroCells (Value.int .u32 0).cells m).toList=List.replicate m (.int .u32 0):=by
  refine List.ext_getElem? fun j=>?_
  simp only [Builtin.zeroCells,Value.cells]
  rcases Nat.lt_or_ge j m with h | h
  · simp [h,Nat.mod_one]
  · simp [h]
 rw [h1]
 clear h1
 induction m with
 | zero=>rfl
 | succ m ih=>simp_all [List.replicate_succ,u32Cells]
end Go.Proofs.YtmhkpjcdkjnlnaaGreatDoor
